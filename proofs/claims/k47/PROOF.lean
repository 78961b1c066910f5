import PyProof.Rows.All
import Wide.All
import OpenK.AllK
import Wide.FinOn
import HandS.Base
import HandS.Call
import HandS.List
import HandS.WideBits
import HandS.Flow
import HandS.Style
import HandS.Comp
import HandS.NoneIn
import HandS.Iter
import HandS.Exc
import HandS.Words
import HandS.Ends
import HandS.ForExc
import HandS.Gcd
import HandS.Deep
import HandS.Conv
import HandS.Property
import HandS.More
import HandS.HeadHook3
import HandS.Zip
import PyProof.LongRange
import HandS.Defaults
import PyProof.EnumMake
import PyProof.Draws
import HandS.Text
import PyProof.ListRange
import PySem.Challenge.RW_stridelanes_k47_lengths_without_conflict
set_option Elab.async false
set_option linter.all false
set_option maxRecDepth 100000
/-! DL1: data over the hand layer. A datum D is what a value is, with what it holds (a frozen list, a tuple: never written again); an address stands for an object that is still written, its content in the map of writables Mu. Readings over D, not over the heap. -/
namespace DL
open PySem L2

inductive D where
  | non | bl (b : Bool) | int (i : Int) | str (x : Str) | adr (a : Addr) | typ (n : String)
  | tup (l : List D) | lst (l : List D) | rol (l : List D) | ins (C : Addr) (ns : List Str) (l : List D)

/-- the frozen objects; those that stay as they are (frozen, or out of reach) -/
structure Zo where
  F : Addr → Prop
  G : Addr → Prop
  sub : ∀ a, F a → G a

def FzT (K : PySem.W.Frag) (F : Zo) (H : Hp) (a : Addr) (vs : List V) : Prop := (F.F a ∧ Rd H a (.tup vs)) ∨ ∀ H', SqT K H' a vs
def FzR (K : PySem.W.Frag) (F : Zo) (H : Hp) (a : Addr) (vs : List V) : Prop := (F.F a ∧ Rd H a (.lst vs)) ∨ ∀ H', SqL K H' a vs

mutual
def Rep (K : PySem.W.Frag) (F : Zo) (H : Hp) : D → V → Prop
  | .non, v => v = .non
  | .bl b, v => v = .bl b
  | .int i, v => v = .int i
  | .str x, v => v = .str x
  | .adr a, v => v = .ref a
  | .typ n, v => v = .ty n
  | .tup l, v => ∃ a vs, v = .ref a ∧ FzT K F H a vs ∧ RepL K F H l vs
  | .lst l, v => ∃ a vs, v = .ref a ∧ (F.F a ∧ H a = some (.lst vs)) ∧ RepL K F H l vs
  | .rol l, v => ∃ a vs, v = .ref a ∧ FzR K F H a vs ∧ RepL K F H l vs
  | .ins C ns l, v => ∃ a dx vs, v = .ref a ∧ (F.F a ∧ H a = some (.ins C dx (ns.zip vs))) ∧ ns.length = vs.length ∧ RepL K F H l vs
def RepL (K : PySem.W.Frag) (F : Zo) (H : Hp) : List D → List V → Prop
  | [], vs => vs = []
  | d :: l, vs => ∃ v r, vs = v :: r ∧ Rep K F H d v ∧ RepL K F H l r
end

/-- what stands to be written -/
inductive M where
  | lst (l : List D)
  | dic (kvs : List (Key × D))
  | obj (C : Addr) (ns : List Str) (l : List D)

abbrev Mu := Addr → Option M
def updM (μ : Mu) (a : Addr) (m : M) : Mu := fun b => if b = a then some m else μ b
def delM (μ : Mu) (a : Addr) : Mu := fun b => if b = a then none else μ b

def Own (K : PySem.W.Frag) (F : Zo) (H : Hp) (a : Addr) : M → Prop
  | .lst l => ∃ vs, H a = some (.lst vs) ∧ RepL K F H l vs
  | .dic kvs => ∃ vs, H a = some (.dK ((kvs.map (·.1)).zip vs)) ∧ RepL K F H (kvs.map (·.2)) vs
  | .obj C ns l => ∃ dx vs, H a = some (.ins C dx (ns.zip vs)) ∧ ns.length = vs.length ∧ RepL K F H l vs

structure Ext (F : Zo) (H : Hp) (F' : Zo) (H' : Hp) : Prop where
  f : ∀ a, F.F a → F'.F a
  g : ∀ a, F.G a → F'.G a
  h : ∀ a, F.G a → H' a = H a
  o : ∀ a, F.G a → F'.F a → F.F a
theorem Ext.refl (F : Zo) (H : Hp) : Ext F H F H := ⟨fun _ h => h, fun _ h => h, fun _ _ => rfl, fun _ _ h => h⟩
theorem Ext.trans {F F1 F2 : Zo} {H H1 H2 : Hp} (a : Ext F H F1 H1) (b : Ext F1 H1 F2 H2) : Ext F H F2 H2 :=
  ⟨fun x h => b.f x (a.f x h), fun x h => b.g x (a.g x h), fun x h => (b.h x (a.g x h)).trans (a.h x h), fun x h k => a.o x h (b.o x (a.g x h) k)⟩
theorem Ext.hf {F F' : Zo} {H H' : Hp} (e : Ext F H F' H') {a : Addr} (h : F.F a) : H' a = H a := e.h a (F.sub a h)

structure Org where
  F : Zo
  H : Hp
structure Hd (K : PySem.W.Frag) (O : Org) (F : Zo) (H : Hp) (μ : Mu) : Prop where
  org : Ext O.F O.H F H
  fr : ∀ a, F.G a → H a ≠ none
  own : ∀ a m, μ a = some m → ¬ F.G a ∧ Own K F H a m

/-- what Rep leans on -/
structure Le (F : Zo) (H : Hp) (F' : Zo) (H' : Hp) : Prop where
  f : ∀ a, F.F a → F'.F a
  hf : ∀ {a}, F.F a → H' a = H a
theorem Ext.le {F F' : Zo} {H H' : Hp} (e : Ext F H F' H') : Le F H F' H' := ⟨e.f, fun h => e.hf h⟩

section
variable {O : Org} {K : PySem.W.Frag} {F F' : Zo} {H H' : Hp}
theorem FzT.mv {a : Addr} {vs : List V} (e : Le F H F' H') (h : FzT K F H a vs) : FzT K F' H' a vs := by
  rcases h with ⟨h1, h2⟩ | h
  · refine .inl ⟨e.f _ h1, ?_⟩
    unfold Rd at h2 ⊢
    rw [e.hf h1]; exact h2
  · exact .inr h
theorem FzR.mv {a : Addr} {vs : List V} (e : Le F H F' H') (h : FzR K F H a vs) : FzR K F' H' a vs := by
  rcases h with ⟨h1, h2⟩ | h
  · refine .inl ⟨e.f _ h1, ?_⟩
    unfold Rd at h2 ⊢
    rw [e.hf h1]; exact h2
  · exact .inr h
mutual
theorem Rep.mv (e : Le F H F' H') : ∀ (d : D) (v : V), Rep K F H d v → Rep K F' H' d v
  | .non, _, h => h
  | .bl _, _, h => h
  | .int _, _, h => h
  | .str _, _, h => h
  | .adr _, _, h => h
  | .typ _, _, h => h
  | .tup l, _, ⟨a, vs, h1, h2, h3⟩ => ⟨a, vs, h1, h2.mv e, RepL.mv e l vs h3⟩
  | .lst l, _, ⟨a, vs, h1, ⟨h2, h4⟩, h3⟩ => ⟨a, vs, h1, ⟨e.f _ h2, (e.hf h2).trans h4⟩, RepL.mv e l vs h3⟩
  | .rol l, _, ⟨a, vs, h1, h2, h3⟩ => ⟨a, vs, h1, h2.mv e, RepL.mv e l vs h3⟩
  | .ins _ _ l, _, ⟨a, dx, vs, h1, ⟨h2, h4⟩, h5, h3⟩ => ⟨a, dx, vs, h1, ⟨e.f _ h2, (e.hf h2).trans h4⟩, h5, RepL.mv e l vs h3⟩
theorem RepL.mv (e : Le F H F' H') : ∀ (l : List D) (vs : List V), RepL K F H l vs → RepL K F' H' l vs
  | [], _, h => h
  | d :: l, _, ⟨v, r, h1, h2, h3⟩ => ⟨v, r, h1, Rep.mv e d v h2, RepL.mv e l r h3⟩
end
theorem Rep.ext (e : Ext F H F' H') (d : D) (v : V) (h : Rep K F H d v) : Rep K F' H' d v := Rep.mv e.le d v h
theorem RepL.ext (e : Ext F H F' H') (l : List D) (vs : List V) (h : RepL K F H l vs) : RepL K F' H' l vs := RepL.mv e.le l vs h
theorem FzT.ext {a : Addr} {vs : List V} (e : Ext F H F' H') (h : FzT K F H a vs) : FzT K F' H' a vs := h.mv e.le
theorem FzR.ext {a : Addr} {vs : List V} (e : Ext F H F' H') (h : FzR K F H a vs) : FzR K F' H' a vs := h.mv e.le
theorem RepL.length : ∀ {l : List D} {vs : List V}, RepL K F H l vs → l.length = vs.length
  | [], _, h => by
    have h : _ = _ := h
    rw [h]; rfl
  | d :: l, _, ⟨v, r, h1, h2, h3⟩ => by rw [h1, List.length_cons, List.length_cons, RepL.length h3]
theorem RepL.cons {d : D} {l : List D} {v : V} {vs : List V} (h : Rep K F H d v) (r : RepL K F H l vs) : RepL K F H (d :: l) (v :: vs) := ⟨v, vs, rfl, h, r⟩
theorem RepL.nil : RepL K F H [] [] := rfl
theorem RepL.append : ∀ {l m : List D} {vs ws : List V}, RepL K F H l vs → RepL K F H m ws → RepL K F H (l ++ m) (vs ++ ws)
  | [], m, vs, ws, h, k => by
    have h : vs = [] := h
    subst h; exact k
  | d :: l, m, _, ws, ⟨v, r, h1, h2, h3⟩, k => by
    subst h1
    exact .cons h2 (RepL.append h3 k)
theorem RepL.get : ∀ {l : List D} {vs : List V} {i : Nat} {d : D}, RepL K F H l vs → l[i]? = some d → ∃ v, vs[i]? = some v ∧ Rep K F H d v
  | [], _, _, _, _, e => by simp at e
  | d :: l, _, 0, _, ⟨v, r, h1, h2, h3⟩, e => by
    subst h1
    simp at e
    subst e
    exact ⟨v, rfl, h2⟩
  | d :: l, _, i + 1, _, ⟨v, r, h1, h2, h3⟩, e => by
    subst h1
    obtain ⟨u, q1, q2⟩ := RepL.get (i := i) h3 (by simpa using e)
    exact ⟨u, by simpa using q1, q2⟩
theorem RepL.get' : ∀ {l : List D} {vs : List V} {i : Nat} {v : V}, RepL K F H l vs → vs[i]? = some v → ∃ d, l[i]? = some d ∧ Rep K F H d v
  | [], vs, i, v, h, e => by
    have h : vs = [] := h
    subst h; simp at e
  | d :: l, _, 0, _, ⟨v, r, h1, h2, h3⟩, e => by
    subst h1
    simp at e
    subst e
    exact ⟨d, rfl, h2⟩
  | d :: l, _, i + 1, _, ⟨v, r, h1, h2, h3⟩, e => by
    subst h1
    obtain ⟨u, q1, q2⟩ := RepL.get' (i := i) h3 (by simpa using e)
    exact ⟨u, by simpa using q1, q2⟩
theorem RepL.set : ∀ {l : List D} {vs : List V} (i : Nat) {d : D} {v : V}, RepL K F H l vs → Rep K F H d v → RepL K F H (l.set i d) (vs.set i v)
  | [], vs, i, d, v, h, _ => by
    have h : vs = [] := h
    subst h; exact RepL.nil
  | _ :: l, _, 0, d, v, ⟨w, r, h1, h2, h3⟩, k => by
    subst h1; exact .cons k h3
  | _ :: l, _, i + 1, d, v, ⟨w, r, h1, h2, h3⟩, k => by
    subst h1; exact .cons h2 (RepL.set i h3 k)
theorem RepL.take : ∀ {l : List D} {vs : List V} (n : Nat), RepL K F H l vs → RepL K F H (l.take n) (vs.take n)
  | _, _, 0, _ => RepL.nil
  | [], vs, n + 1, h => by
    have h : vs = [] := h
    subst h; exact RepL.nil
  | _ :: l, _, n + 1, ⟨v, r, h1, h2, h3⟩ => by
    subst h1; exact .cons h2 (RepL.take n h3)
theorem RepL.drop : ∀ {l : List D} {vs : List V} (n : Nat), RepL K F H l vs → RepL K F H (l.drop n) (vs.drop n)
  | _, _, 0, h => h
  | [], vs, n + 1, h => by
    have h : vs = [] := h
    subst h; exact RepL.nil
  | _ :: l, _, n + 1, ⟨v, r, h1, h2, h3⟩ => by
    subst h1; exact RepL.drop n h3
theorem RepL.ints : ∀ {ns : List Int} {vs : List V}, RepL K F H (ns.map D.int) vs → vs = ns.map V.int
  | [], _, h => h
  | n :: ns, _, ⟨v, r, h1, h2, h3⟩ => by
    have h2 : v = V.int n := h2
    subst h1 h2
    rw [RepL.ints h3]; rfl
theorem RepL.of_ints : ∀ (ns : List Int), RepL K F H (ns.map D.int) (ns.map V.int)
  | [] => RepL.nil
  | n :: ns => .cons (show Rep K F H (.int n) (.int n) from rfl) (RepL.of_ints ns)
theorem Own.mv {a : Addr} {m : M} (e : Le F H F' H') (h : Own K F H a m) (ha : H' a = H a) : Own K F' H' a m := by
  cases m with
  | lst l => obtain ⟨vs, h1, h2⟩ := h; exact ⟨vs, ha.trans h1, h2.mv e⟩
  | dic kvs => obtain ⟨vs, h1, h2⟩ := h; exact ⟨vs, ha.trans h1, h2.mv e⟩
  | obj C ns l => obtain ⟨dx, vs, h1, h3, h2⟩ := h; exact ⟨dx, vs, ha.trans h1, h3, h2.mv e⟩
theorem Own.ext {a : Addr} {m : M} (e : Ext F H F' H') (h : Own K F H a m) (ha : H' a = H a) : Own K F' H' a m := h.mv e.le ha
theorem Own.tracked {a : Addr} {m : M} (h : Own K F H a m) : H a ≠ none := by
  cases m with
  | lst l => obtain ⟨vs, h1, h2⟩ := h; rw [h1]; simp
  | dic kvs => obtain ⟨vs, h1, h2⟩ := h; rw [h1]; simp
  | obj C ns l => obtain ⟨dx, vs, h1, h2⟩ := h; rw [h1]; simp
variable {μ : Mu}
theorem Hd.free {p : Addr} (h : Hd K O F H μ) (hp : H p = none) : μ p = none := by
  cases e : μ p with
  | none => rfl
  | some m => exact absurd hp (h.own p m e).2.tracked
theorem Hd.nf {p : Addr} (h : Hd K O F H μ) (hp : H p = none) : ¬ F.G p := fun f => h.fr p f hp
/-- one object more that is frozen -/
def addF (F : Zo) (p : Addr) : Zo := ⟨fun a => F.F a ∨ a = p, fun a => F.G a ∨ a = p, fun a h => h.imp (F.sub a) id⟩
/-- one object more that is out of reach -/
def addG (F : Zo) (p : Addr) : Zo := ⟨F.F, fun a => F.G a ∨ a = p, fun a h => .inl (F.sub a h)⟩
def remG (F : Zo) (p : Addr) (h : ¬ F.F p) : Zo := ⟨F.F, fun a => F.G a ∧ a ≠ p, fun a k => ⟨F.sub a k, fun z => h (z ▸ k)⟩⟩
theorem ext_new {p : Addr} {o : HO} (h : Hd K O F H μ) (hp : H p = none) : Ext F H F (upd H p o) :=
  ⟨fun _ f => f, fun _ f => f, fun a f => upd_ne fun z => h.nf hp (z ▸ f), fun _ _ f => f⟩
theorem ext_newF {p : Addr} {o : HO} (h : Hd K O F H μ) (hp : H p = none) : Ext F H (addF F p) (upd H p o) :=
  ⟨fun _ f => .inl f, fun _ f => .inl f, fun a f => upd_ne fun z => h.nf hp (z ▸ f), fun a f k => k.elim id fun z => absurd (z ▸ f) (h.nf hp)⟩
/-- an object is laid and frozen at once -/
theorem Hd.newF {p : Addr} {o : HO} (h : Hd K O F H μ) (hp : H p = none) : Hd K O (addF F p) (upd H p o) μ := by
  refine ⟨h.org.trans (ext_newF h hp), fun a f => ?_, fun a m e => ?_⟩
  · rcases f with f | f
    · by_cases z : a = p
      · subst z; rw [upd_same]; simp
      · rw [upd_ne z]; exact h.fr a f
    · subst f; rw [upd_same]; simp
  · have z : a ≠ p := fun z => by rw [z, h.free hp] at e; cases e
    obtain ⟨h1, h2⟩ := h.own a m e
    exact ⟨fun f => f.elim h1 z, h2.ext (ext_newF h hp) (upd_ne z)⟩
/-- an object is laid, to be written -/
theorem Hd.newM {p : Addr} {o : HO} {m : M} (h : Hd K O F H μ) (hp : H p = none) (w : Own K F (upd H p o) p m) : Hd K O F (upd H p o) (updM μ p m) := by
  refine ⟨h.org.trans (ext_new h hp), fun a f => ?_, fun a m' e => ?_⟩
  · have z : a ≠ p := fun z => h.nf hp (z ▸ f)
    rw [upd_ne z]; exact h.fr a f
  · by_cases z : a = p
    · subst z
      have e : some m = some m' := (if_pos rfl).symm.trans e
      cases e
      exact ⟨h.nf hp, w⟩
    · have e : μ a = some m' := (if_neg z).symm.trans e
      obtain ⟨h1, h2⟩ := h.own a m' e
      exact ⟨h1, h2.ext (ext_new h hp) (upd_ne z)⟩
theorem ext_set {p : Addr} {o : HO} {m : M} (h : Hd K O F H μ) (hm : μ p = some m) : Ext F H F (upd H p o) :=
  ⟨fun _ f => f, fun _ f => f, fun a f => upd_ne fun z => (h.own p m hm).1 (z ▸ f), fun _ _ f => f⟩
/-- an object is written -/
theorem Hd.set {p : Addr} {o : HO} {m m' : M} (h : Hd K O F H μ) (hm : μ p = some m) (w : Own K F (upd H p o) p m') : Hd K O F (upd H p o) (updM μ p m') := by
  refine ⟨h.org.trans (ext_set h hm), fun a f => ?_, fun a m2 e => ?_⟩
  · have z : a ≠ p := fun z => (h.own p m hm).1 (z ▸ f)
    rw [upd_ne z]; exact h.fr a f
  · by_cases z : a = p
    · subst z
      have e : some m' = some m2 := (if_pos rfl).symm.trans e
      cases e
      exact ⟨(h.own a m hm).1, w⟩
    · have e : μ a = some m2 := (if_neg z).symm.trans e
      obtain ⟨h1, h2⟩ := h.own a m2 e
      exact ⟨h1, h2.ext (ext_set h hm) (upd_ne z)⟩
/-- an object is frozen -/
theorem Hd.frz {p : Addr} {m : M} (h : Hd K O F H μ) (hm : μ p = some m) : Hd K O (addF F p) H (delM μ p) ∧ Ext F H (addF F p) H := by
  have ex : Ext F H (addF F p) H := ⟨fun _ f => .inl f, fun _ f => .inl f, fun _ _ => rfl, fun a f k => k.elim id fun z => absurd (z ▸ f) (h.own p m hm).1⟩
  refine ⟨⟨h.org.trans ex, fun a f => ?_, fun a m2 e => ?_⟩, ex⟩
  · rcases f with f | f
    · exact h.fr a f
    · subst f; exact (h.own a m hm).2.tracked
  · have z : a ≠ p := fun z => by
      subst z
      have e : none = some m2 := (if_pos rfl).symm.trans e
      cases e
    have e : μ a = some m2 := (if_neg z).symm.trans e
    obtain ⟨h1, h2⟩ := h.own a m2 e
    exact ⟨fun f => f.elim h1 z, h2.ext ex rfl⟩
theorem Hd.sub {μ' : Mu} (h : Hd K O F H μ) (s : ∀ a m, μ' a = some m → μ a = some m) : Hd K O F H μ' := ⟨h.org, h.fr, fun a m e => h.own a m (s a m e)⟩
end

/-! ### the writables -/
def Sub (μ' μ : Mu) : Prop := ∀ a m, μ' a = some m → μ a = some m
theorem Sub.refl (μ : Mu) : Sub μ μ := fun _ _ h => h
theorem Sub.trans {a b c : Mu} (h : Sub a b) (k : Sub b c) : Sub a c := fun x m e => k x m (h x m e)
theorem Sub.new {μ μ' : Mu} {p : Addr} {m : M} (s : Sub μ μ') (h : μ p = none) : Sub μ (updM μ' p m) := fun a m' e => by
  have z : a ≠ p := fun z => by rw [z, h] at e; cases e
  exact (if_neg z).trans (s a m' e)
theorem Sub.del {μ μ' : Mu} {p : Addr} (s : Sub μ μ') (h : μ p = none) : Sub μ (delM μ' p) := fun a m' e => by
  have z : a ≠ p := fun z => by rw [z, h] at e; cases e
  exact (if_neg z).trans (s a m' e)
@[simp] theorem updM_same (μ : Mu) (p : Addr) (m : M) : updM μ p m p = some m := if_pos rfl
theorem updM_ne {μ : Mu} {p a : Addr} {m : M} (h : a ≠ p) : updM μ p m a = μ a := if_neg h
@[simp] theorem updM_updM (μ : Mu) (p : Addr) (m m' : M) : updM (updM μ p m) p m' = updM μ p m' := by
  funext b; unfold updM; split <;> rfl
theorem updM_eta {μ : Mu} {p : Addr} {m : M} (h : μ p = some m) : updM μ p m = μ := by
  funext b; unfold updM; split
  · rename_i e; rw [e, h]
  · rfl
theorem delM_updM {μ : Mu} {p : Addr} (m : M) (h : μ p = none) : delM (updM μ p m) p = μ := by
  funext b; unfold delM updM; split
  · rename_i e; rw [e, h]
  · rfl
theorem updM_comm {μ : Mu} {p r : Addr} {m m' : M} (h : p ≠ r) : updM (updM μ p m) r m' = updM (updM μ r m') p m := by
  funext b; unfold updM
  by_cases e1 : b = r
  · subst e1; rw [if_pos rfl, if_neg (fun z => h z.symm), if_pos rfl]
  · rw [if_neg e1]
    by_cases e2 : b = p
    · subst e2; rw [if_pos rfl, if_pos rfl]
    · rw [if_neg e2, if_neg e2, if_neg e1]

/-! ### readings over data -/
abbrev DS := List (Option D)
abbrev DK := D → Mu → Prop
abbrev DTE := DS → Mu → DK → Prop
abbrev DTT := DS → Mu → (Bool → Mu → Prop) → Prop
abbrev DTA := DS → Mu → (List D → Mu → Prop) → Prop
structure DEnds where
  nx : DS → Mu → Prop
  rt : DK
  bk : DS → Mu → Prop := fun _ _ => False
  ct : DS → Mu → Prop := fun _ _ => False
abbrev DTS := DEnds → DS → Mu → Prop

/-- the slots -/
structure RepS (K : PySem.W.Frag) (F : Zo) (H : Hp) (δ : DS) (σ : St) : Prop where
  len : δ.length = σ.length
  at_ : ∀ (i : Nat) (d : D), δ[i]? = some (some d) → ∃ v, σ[i]? = some (some v) ∧ Rep K F H d v
section
variable {O : Org} {K : PySem.W.Frag} {F F' : Zo} {H H' : Hp} {δ : DS} {σ : St}
theorem RepS.ext (e : Ext F H F' H') (h : RepS K F H δ σ) : RepS K F' H' δ σ := ⟨h.len, fun i d q => let ⟨v, h1, h2⟩ := h.at_ i d q; ⟨v, h1, h2.ext e⟩⟩
theorem RepS.set (h : RepS K F H δ σ) {i : Nat} {d : D} {v : V} (r : Rep K F H d v) : RepS K F H (δ.set i (some d)) (σ.set i (some v)) := by
  refine ⟨by rw [List.length_set, List.length_set, h.len], fun j e q => ?_⟩
  by_cases z : j = i
  · subst z
    have hj : j < δ.length := by
      have := (List.getElem?_eq_some_iff.mp q).1
      rw [List.length_set] at this; exact this
    rw [List.getElem?_set_self hj] at q
    cases q
    exact ⟨v, List.getElem?_set_self (by rw [← h.len]; exact hj), r⟩
  · rw [List.getElem?_set_ne (Ne.symm z)] at q ⊢
    exact h.at_ j e q
end

structure LEnds (K : PySem.W.Frag) (O : Org) (F : Zo) (H : Hp) (E : DEnds) (Z : Ends) : Prop where
  nx : ∀ F' H' μ δ σ, Ext F H F' H' → Hd K O F' H' μ → RepS K F' H' δ σ → E.nx δ μ → Z.nx σ H'
  rt : ∀ F' H' μ d v, Ext F H F' H' → Hd K O F' H' μ → Rep K F' H' d v → E.rt d μ → Z.rt v H'
  bk : ∀ F' H' μ δ σ, Ext F H F' H' → Hd K O F' H' μ → RepS K F' H' δ σ → E.bk δ μ → Z.bk σ H'
  ct : ∀ F' H' μ δ σ, Ext F H F' H' → Hd K O F' H' μ → RepS K F' H' δ σ → E.ct δ μ → Z.ct σ H'
theorem LEnds.ext {K : PySem.W.Frag} {F F' : Zo} {H H' : Hp} {E : DEnds} {Z : Ends} (h : LEnds K O F H E Z) (e : Ext F H F' H') : LEnds K O F' H' E Z :=
  ⟨fun _ _ _ _ _ x => h.nx _ _ _ _ _ (e.trans x), fun _ _ _ _ _ x => h.rt _ _ _ _ _ (e.trans x), fun _ _ _ _ _ x => h.bk _ _ _ _ _ (e.trans x), fun _ _ _ _ _ x => h.ct _ _ _ _ _ (e.trans x)⟩

def LE (K : PySem.W.Frag) (O : Org) (t : DTE) : TE := fun σ H Q => ∃ F δ μ q, Hd K O F H μ ∧ RepS K F H δ σ ∧ t δ μ q ∧ ∀ F' H' μ' d v, Ext F H F' H' → Hd K O F' H' μ' → Rep K F' H' d v → q d μ' → Q v H'
def LT (K : PySem.W.Frag) (O : Org) (t : DTT) : TT := fun σ H Q => ∃ F δ μ q, Hd K O F H μ ∧ RepS K F H δ σ ∧ t δ μ q ∧ ∀ F' H' μ' b, Ext F H F' H' → Hd K O F' H' μ' → q b μ' → Q b H'
def LA (K : PySem.W.Frag) (O : Org) (t : DTA) : TA := fun σ H Q => ∃ F δ μ q, Hd K O F H μ ∧ RepS K F H δ σ ∧ t δ μ q ∧ ∀ F' H' μ' ds vs, Ext F H F' H' → Hd K O F' H' μ' → RepL K F' H' ds vs → q ds μ' → Q vs H'
def LS (K : PySem.W.Frag) (O : Org) (t : DTS) : TS := fun Z σ H => ∃ F δ μ E, Hd K O F H μ ∧ RepS K F H δ σ ∧ t E δ μ ∧ LEnds K O F H E Z
abbrev DTG := D → DS → Mu → (DS → Mu → Prop) → Prop
def LG (K : PySem.W.Frag) (O : Org) (t : DTG) : TG := fun v σ H Q => ∃ F d δ μ q, Hd K O F H μ ∧ RepS K F H δ σ ∧ Rep K F H d v ∧ t d δ μ q ∧ ∀ F' H' μ' δ' σ', Ext F H F' H' → Hd K O F' H' μ' → RepS K F' H' δ' σ' → q δ' μ' → Q σ' H'
abbrev DTGs := List D → DS → Mu → (DS → Mu → Prop) → Prop
def LGs (K : PySem.W.Frag) (O : Org) (t : DTGs) : TGs := fun vs σ H Q => ∃ F ds δ μ q, Hd K O F H μ ∧ RepS K F H δ σ ∧ RepL K F H ds vs ∧ t ds δ μ q ∧ ∀ F' H' μ' δ' σ', Ext F H F' H' → Hd K O F' H' μ' → RepS K F' H' δ' σ' → q δ' μ' → Q σ' H'

abbrev DE (O : Org) (X : Cx) (e : Expr) (t : DTE) : Prop := PE X e (LE X.K O t)
abbrev DT (O : Org) (X : Cx) (e : Expr) (t : DTT) : Prop := PT X e (LT X.K O t)
abbrev DW (O : Org) (X : Cx) (e : Expr) (t : DTT) : Prop := PW X e (LT X.K O t)
abbrev DA (O : Org) (X : Cx) (es : List Expr) (t : DTA) : Prop := PA X es (LA X.K O t)
abbrev DSt (O : Org) (X : Cx) (s : Stmt) (t : DTS) : Prop := PS X s (LS X.K O t)
abbrev DSs (O : Org) (X : Cx) (s : List Stmt) (t : DTS) : Prop := PSs X s (LS X.K O t)
abbrev DG (O : Org) (X : Cx) (e : Expr) (t : DTG) : Prop := PG X e (LG X.K O t)
abbrev DGs (O : Org) (X : Cx) (es : List Expr) (t : DTGs) : Prop := PGs X es (LGs X.K O t)

variable {O : Org}
theorem pe_weak {X : Cx} {e : Expr} {t t' : TE} (h : PE X e t) (w : ∀ σ H Q, t' σ H Q → t σ H Q) : PE X e t' := ⟨fun pins s σ H Q I q => h.run pins s σ H Q I (w σ H Q q)⟩
theorem pt_weak {X : Cx} {e : Expr} {t t' : TT} (h : PT X e t) (w : ∀ σ H Q, t' σ H Q → t σ H Q) : PT X e t' := ⟨fun pins s σ H Q I q => h.run pins s σ H Q I (w σ H Q q)⟩
theorem pw_weak {X : Cx} {e : Expr} {t t' : TT} (h : PW X e t) (w : ∀ σ H Q, t' σ H Q → t σ H Q) : PW X e t' := ⟨fun wh pins s σ H Q I q => h.run wh pins s σ H Q I (w σ H Q q)⟩
theorem pa_weak {X : Cx} {e : List Expr} {t t' : TA} (h : PA X e t) (w : ∀ σ H Q, t' σ H Q → t σ H Q) : PA X e t' := ⟨fun pos pins s σ H Q I q => h.run pos pins s σ H Q I (w σ H Q q)⟩
theorem ps_weak {X : Cx} {e : Stmt} {t t' : TS} (h : PS X e t) (w : ∀ Z σ H, t' Z σ H → t Z σ H) : PS X e t' := ⟨fun pins s σ H Z I q => h.run pins s σ H Z I (w Z σ H q)⟩
theorem pss_weak {X : Cx} {e : List Stmt} {t t' : TS} (h : PSs X e t) (w : ∀ Z σ H, t' Z σ H → t Z σ H) : PSs X e t' := ⟨fun pins s σ H Z I q => h.run pins s σ H Z I (w Z σ H q)⟩
theorem pg_weak {X : Cx} {e : Expr} {t t' : TG} (h : PG X e t) (w : ∀ v σ H Q, t' v σ H Q → t v σ H Q) : PG X e t' := ⟨fun pins s σ H v u Q I r q => h.run pins s σ H v u Q I r (w v σ H Q q)⟩
theorem pgs_weak {X : Cx} {e : List Expr} {t t' : TGs} (h : PGs X e t) (w : ∀ v σ H Q, t' v σ H Q → t v σ H Q) : PGs X e t' := ⟨fun pins s σ H v u Q I r q => h.run pins s σ H v u Q I r (w v σ H Q q)⟩

/-! ### names, constants, displays -/
section
variable {O : Org} {X : Cx} {a b : Expr} {ta tb tc : DTE} {pos : Pos}
def dVar (i : Nat) : DTE := fun δ μ q => match δ[i]? with | some (some d) => q d μ | _ => False
def dC (d : D) : DTE := fun _ μ q => q d μ
theorem de_of_var {e : Expr} {i : Nat} (h : PE X e (tVar i)) : DE O X e (dVar i) := pe_weak h fun σ H Q ⟨F, δ, μ, q, hd, rs, t, k⟩ => by
  unfold dVar at t
  split at t
  · rename_i d e
    obtain ⟨v, h1, h2⟩ := rs.at_ i d e
    exact ⟨v, h1, k F H μ d v (Ext.refl F H) hd h2 t⟩
  · exact t.elim
theorem dv (i : Nat) {x : Str} {pos : Pos} (hN : X.N[i]? = some x := by rfl) (hv : Vis X.env.scope x := by first | exact Or.inl rfl | exact Or.inr (Or.inl rfl) | exact Or.inr (Or.inr rfl)) (hd : (x == ("__debug__" : Str)) = false := by decide)
    (hcd : (x == ("__classdict__" : Str)) = false := by decide) : DE O X (.Name x pos) (dVar i) := de_of_var (pe_var hN hv hd hcd)
theorem de_of_c {e : Expr} {d : D} {v : V} (h : PE X e (tC v)) (r : ∀ F H, Rep X.K F H d v) : DE O X e (dC d) := pe_weak h fun σ H Q ⟨F, δ, μ, q, hd, rs, t, k⟩ =>
  k F H μ d v (Ext.refl F H) hd (r F H) t
theorem de_int {i : Int} {j} : DE O X (.Constant (.int i) j pos) (dC (.int i)) := de_of_c pe_int fun _ _ => rfl
theorem de_bl {i : Bool} {j} : DE O X (.Constant (.bool i) j pos) (dC (.bl i)) := de_of_c pe_bl fun _ _ => rfl
theorem de_non {j} : DE O X (.Constant .none j pos) (dC .non) := de_of_c pe_non fun _ _ => rfl
theorem de_str {x : Str} {j} : DE O X (.Constant (.str x) j pos) (dC (.str x)) := de_of_c pe_str fun _ _ => rfl
def dNil : DTA := fun _ μ q => q [] μ
def dCons (ta : DTE) (tr : DTA) : DTA := fun δ μ q => ta δ μ fun d μ1 => tr δ μ1 fun ds μ2 => q (d :: ds) μ2
theorem da_nil : DA O X [] dNil := pa_weak pa_nil fun σ H Q ⟨F, δ, μ, q, hd, rs, t, k⟩ => k F H μ [] [] (Ext.refl F H) hd RepL.nil t
theorem da_cons {es : List Expr} {tr : DTA} (ha : DE O X a ta) (hr : DA O X es tr) (hs : starEach (a :: es) X.env = (false, eval a X.env) :: starEach es X.env := by rfl) : DA O X (a :: es) (dCons ta tr) :=
  pa_weak (pa_cons ha hr hs) fun σ H Q ⟨F, δ, μ, q, hd, rs, t, k⟩ =>
    ⟨F, δ, μ, _, hd, rs, t, fun F1 H1 μ1 d v e1 hd1 r1 t1 => ⟨F1, δ, μ1, _, hd1, rs.ext e1, t1, fun F2 H2 μ2 ds vs e2 hd2 r2 t2 =>
      k F2 H2 μ2 _ _ (e1.trans e2) hd2 (.cons (r1.ext e2) r2) t2⟩⟩
def dTup (t : DTA) : DTE := fun δ μ q => t δ μ fun ds μ1 => ds.length ≤ sizeLine ∧ q (.tup ds) μ1
def dLst (t : DTA) : DTE := fun δ μ q => t δ μ fun ds μ1 => ds.length ≤ sizeLine ∧ q (.lst ds) μ1
/-- a list that is to be written -/
def dLstM (t : DTA) : DTE := fun δ μ q => t δ μ fun ds μ1 => ds.length ≤ sizeLine ∧ ∀ p, μ1 p = none → q (.adr p) (updM μ1 p (.lst ds))
variable {es : List Expr} {t : DTA}
theorem de_tup {k} (h : DA O X es t) : DE O X (.Tuple es k pos) (dTup t) := pe_weak (pe_tup h) fun σ H Q ⟨F, δ, μ, q, hd, rs, t, k⟩ =>
  ⟨F, δ, μ, _, hd, rs, t, fun F1 H1 μ1 ds vs e1 hd1 r1 ⟨hl, t1⟩ => ⟨by rw [← r1.length]; exact hl, fun p hp =>
    k _ _ μ1 (.tup ds) (.ref p) (e1.trans (ext_newF hd1 hp)) (hd1.newF hp) ⟨p, vs, rfl, .inl ⟨.inr rfl, .inl upd_same⟩, r1.ext (ext_newF hd1 hp)⟩ t1⟩⟩
theorem de_lst (h : DA O X es t) : DE O X (.List es pos) (dLst t) := pe_weak (pe_lst h) fun σ H Q ⟨F, δ, μ, q, hd, rs, t, k⟩ =>
  ⟨F, δ, μ, _, hd, rs, t, fun F1 H1 μ1 ds vs e1 hd1 r1 ⟨hl, t1⟩ => ⟨by rw [← r1.length]; exact hl, fun p hp =>
    k _ _ μ1 (.lst ds) (.ref p) (e1.trans (ext_newF hd1 hp)) (hd1.newF hp) ⟨p, vs, rfl, ⟨.inr rfl, upd_same⟩, r1.ext (ext_newF hd1 hp)⟩ t1⟩⟩
theorem de_lstM (h : DA O X es t) : DE O X (.List es pos) (dLstM t) := pe_weak (pe_lst h) fun σ H Q ⟨F, δ, μ, q, hd, rs, t, k⟩ =>
  ⟨F, δ, μ, _, hd, rs, t, fun F1 H1 μ1 ds vs e1 hd1 r1 ⟨hl, t1⟩ => ⟨by rw [← r1.length]; exact hl, fun p hp =>
    k _ _ _ (.adr p) (.ref p) (e1.trans (ext_new hd1 hp)) (hd1.newM (m := .lst ds) hp ⟨vs, upd_same, r1.ext (ext_new hd1 hp)⟩) rfl (t1 p (hd1.free hp))⟩⟩
end
end DL

set_option Elab.async false
set_option linter.all false
set_option maxRecDepth 100000
namespace DL
open PySem L2 PySem.Spec PyProof.Rows

/-! ### lists wherever they stand -/
def lstOf (μ : Mu) : D → Option (List D)
  | .lst l => some l
  | .rol l => some l
  | .adr p => match μ p with
    | some (.lst l) => some l
    | _ => none
  | _ => none
/-- a list that may be added to another -/
def catOf (μ : Mu) : D → Option (List D)
  | .lst l => some l
  | .adr p => match μ p with
    | some (.lst l) => some l
    | _ => none
  | _ => none
section
variable {O : Org} {K : PySem.W.Frag} {F F' : Zo} {H H' : Hp} {μ μ' : Mu} {d e : D} {v w : V} {l : List D}
theorem FzT.sq {a : Addr} {vs : List V} (h : FzT K F H a vs) : SqT K H a vs := h.elim (fun h => .inl h.2) fun h => h H
theorem FzR.sq {a : Addr} {vs : List V} (h : FzR K F H a vs) : SqL K H a vs := h.elim (fun h => .inl h.2) fun h => h H
theorem list_sq (hd : Hd K O F H μ) (r : Rep K F H d v) (e : lstOf μ d = some l) : ∃ a vs, v = .ref a ∧ SqL K H a vs ∧ RepL K F H l vs := by
  cases d <;> simp only [lstOf] at e <;> try cases e
  · rename_i p
    obtain rfl : v = .ref p := r
    split at e
    · rename_i m hm
      cases e
      obtain ⟨_, vs, h1, h2⟩ := hd.own p _ hm
      exact ⟨p, vs, rfl, SqL.of h1, h2⟩
    · cases e
  · obtain ⟨a, vs, h1, h2, h3⟩ := r
    exact ⟨a, vs, h1, SqL.of h2.2, h3⟩
  · obtain ⟨a, vs, h1, h2, h3⟩ := r
    exact ⟨a, vs, h1, h2.sq, h3⟩
theorem list_cat (hd : Hd K O F H μ) (r : Rep K F H d v) (e : catOf μ d = some l) : ∃ a vs, v = .ref a ∧ H a = some (.lst vs) ∧ RepL K F H l vs := by
  cases d <;> simp only [catOf] at e <;> try cases e
  · rename_i p
    obtain rfl : v = .ref p := r
    split at e
    · rename_i m hm
      cases e
      obtain ⟨_, vs, h1, h2⟩ := hd.own p _ hm
      exact ⟨p, vs, rfl, h1, h2⟩
    · cases e
  · obtain ⟨a, vs, h1, h2, h3⟩ := r
    exact ⟨a, vs, h1, h2.2, h3⟩
end

/-! ### operators -/
abbrev DR2 := D → D → Mu → DK → Prop
def OpD (K : PySem.W.Frag) (r : R2) (rd : DR2) : Prop := ∀ O F H μ x y v w q Q, Hd K O F H μ → Rep K F H x v → Rep K F H y w → rd x y μ q →
  (∀ F' H' μ' d u, Ext F H F' H' → Hd K O F' H' μ' → Rep K F' H' d u → q d μ' → Q u H') → r v w H Q
abbrev DU := D → Mu → DK → Prop
def UnD (K : PySem.W.Frag) (r : V → Hp → VK → Prop) (rd : DU) : Prop := ∀ O F H μ x v q Q, Hd K O F H μ → Rep K F H x v → rd x μ q →
  (∀ F' H' μ' d u, Ext F H F' H' → Hd K O F' H' μ' → Rep K F' H' d u → q d μ' → Q u H') → r v H Q
abbrev DC2 := List D → Mu → DK → Prop
def CallD (K : PySem.W.Frag) (r : List V → Hp → VK → Prop) (rd : DC2) : Prop := ∀ O F H μ ds vs q Q, Hd K O F H μ → RepL K F H ds vs → rd ds μ q →
  (∀ F' H' μ' d u, Ext F H F' H' → Hd K O F' H' μ' → Rep K F' H' d u → q d μ' → Q u H') → r vs H Q
def dOp (rd : DR2) (ta tb : DTE) : DTE := fun δ μ q => ta δ μ fun x μ1 => tb δ μ1 fun y μ2 => rd x y μ2 q
def dUn (rd : DU) (ta : DTE) : DTE := fun δ μ q => ta δ μ fun x μ1 => rd x μ1 q
def dTest (t : DTE) : DTT := fun δ μ q => t δ μ fun x μ1 => match x with | .bl b => q b μ1 | _ => False
section
variable {O : Org} {X : Cx} {a b c : Expr} {ta tb tc : DTE} {pos : Pos} {r r' : R2} {rd rd' : DR2}
theorem lop {K : PySem.W.Frag} (h : OpD K r rd) : ∀ σ H Q, LE K O (dOp rd ta tb) σ H Q → tOp r (LE K O ta) (LE K O tb) σ H Q := fun σ H Q ⟨F, δ, μ, q, hd, rs, t, k⟩ =>
  ⟨F, δ, μ, _, hd, rs, t, fun F1 H1 μ1 x v e1 hd1 r1 t1 => ⟨F1, δ, μ1, _, hd1, rs.ext e1, t1, fun F2 H2 μ2 y w e2 hd2 r2 t2 =>
    h O F2 H2 μ2 x y v w q Q hd2 (r1.ext e2) r2 t2 fun F' H' μ' d u e3 hd3 r3 t3 => k F' H' μ' d u ((e1.trans e2).trans e3) hd3 r3 t3⟩⟩
theorem de_op {op : Operator} (ho : OpR X (binaryOp op) r) (h : OpD X.K r rd) (ha : DE O X a ta) (hb : DE O X b tb) : DE O X (.BinOp a op b pos) (dOp rd ta tb) := pe_weak (pe_op ho ha hb) (lop h)
theorem de_un {op : UnaryOp} {r : V → Hp → VK → Prop} {rd : DU} (ho : UnR X (unaryOp op) r) (h : UnD X.K r rd) (ha : DE O X a ta) : DE O X (.UnaryOp op a pos) (dUn rd ta) :=
  pe_weak (pe_un ho ha) fun σ H Q ⟨F, δ, μ, q, hd, rs, t, k⟩ => ⟨F, δ, μ, _, hd, rs, t, fun F1 H1 μ1 x v e1 hd1 r1 t1 =>
    h O F1 H1 μ1 x v q Q hd1 r1 t1 fun F' H' μ' d u e3 hd3 r3 t3 => k F' H' μ' d u (e1.trans e3) hd3 r3 t3⟩
theorem de_cmp {op : CmpOp} (ho : OpR X (compareOp op) r) (h : OpD X.K r rd) (ha : DE O X a ta) (hb : DE O X b tb) (hm : behindInMarks op b = false) : DE O X (.Compare a [op] [b] pos) (dOp rd ta tb) := pe_weak (pe_cmpR ho ha hb hm) (lop h)
theorem ltest {K : PySem.W.Frag} {t : TE} {u : DTE} (h : ∀ σ H Q, LE K O u σ H Q → t σ H Q) : ∀ σ H Q, LT K O (dTest u) σ H Q → tTest t σ H Q := fun σ H Q ⟨F, δ, μ, q, hd, rs, t, k⟩ =>
  h σ H _ ⟨F, δ, μ, _, hd, rs, t, fun F1 H1 μ1 x v e1 hd1 r1 t1 => by
    cases x <;> first | exact False.elim t1 | skip
    rename_i b
    exact ⟨b, r1, k F1 H1 μ1 b e1 hd1 t1⟩⟩
theorem dt_cmp {op : CmpOp} (ho : OpR X (compareOp op) r) (h : OpD X.K r rd) (ha : DE O X a ta) (hb : DE O X b tb) (hm : behindInMarks op b = false) : DT O X (.Compare a [op] [b] pos) (dTest (dOp rd ta tb)) := pt_weak (pt_cmpR ho ha hb hm) (ltest (lop h))
/-- an expression that gives True or False -/
theorem dt_val (ha : DE O X a ta) (hb : PT X a (tB (LE X.K O ta))) : DT O X a (dTest ta) := pt_weak hb (fun σ H Q ⟨F, δ, μ, q, hd, rs, t, k⟩ => ⟨F, δ, μ, _, hd, rs, t, fun F1 H1 μ1 x v e1 hd1 r1 t1 => by
    cases x <;> first | exact False.elim t1 | skip
    rename_i b
    exact ⟨b, r1, k F1 H1 μ1 b e1 hd1 t1⟩⟩)
/-- a < b < c -/
def dChain (rd rd' : DR2) (ta tb tc : DTE) : DTE := fun δ μ q => ta δ μ fun x μ1 => tb δ μ1 fun y μ2 => rd x y μ2 fun z μ3 => match z with
  | .bl b => if b = true then tc δ μ3 fun u μ4 => rd' y u μ4 q else q (.bl false) μ3
  | _ => False
end
end DL

set_option Elab.async false
set_option linter.all false
set_option maxRecDepth 100000
namespace DL
open PySem L2 PySem.Spec PyProof.Rows

section
variable {O : Org} {X : Cx} {a b c : Expr} {ta tb tc : DTE} {pos : Pos} {r r' : R2} {rd rd' : DR2} {rest : List Expr} {tA tB' : DTT}
theorem lchain {K : PySem.W.Frag} (h : OpD K r rd) (h' : OpD K r' rd') : ∀ σ H Q, LE K O (dChain rd rd' ta tb tc) σ H Q → tChain r r' (LE K O ta) (LE K O tb) (LE K O tc) σ H Q := fun σ H Q ⟨F, δ, μ, q, hd, rs, t, k⟩ =>
  ⟨F, δ, μ, _, hd, rs, t, fun F1 H1 μ1 x v e1 hd1 r1 t1 => ⟨F1, δ, μ1, _, hd1, rs.ext e1, t1, fun F2 H2 μ2 y w e2 hd2 r2 t2 =>
    h O F2 H2 μ2 x y v w _ _ hd2 (r1.ext e2) r2 t2 fun F3 H3 μ3 z u e3 hd3 r3 t3 => by
      cases z <;> first | exact False.elim t3 | skip
      rename_i bz
      refine ⟨bz, r3, ?_⟩
      cases bz with
      | true =>
        dsimp only at t3
        rw [if_pos rfl] at t3
        rw [if_pos rfl]
        refine ⟨F3, δ, μ3, _, hd3, ((rs.ext e1).ext e2).ext e3, t3, fun F4 H4 μ4 u' v' e4 hd4 r4 t4 => ?_⟩
        exact h' O F4 H4 μ4 y u' w v' q Q hd4 ((r2.ext e3).ext e4) r4 t4 fun F' H' μ' d u e5 hd5 r5 t5 => k F' H' μ' d u ((((e1.trans e2).trans e3).trans e4).trans e5) hd5 r5 t5
      | false =>
        dsimp only at t3
        rw [if_neg Bool.false_ne_true] at t3
        rw [if_neg Bool.false_ne_true]
        exact k F3 H3 μ3 (.bl false) _ ((e1.trans e2).trans e3) hd3 rfl t3⟩⟩
theorem de_chain {op op' : CmpOp} (ho : OpR X (compareOp op) r) (ho' : OpR X (compareOp op') r') (h : OpD X.K r rd) (h' : OpD X.K r' rd') (ha : DE O X a ta) (hb : DE O X b tb) (hc : DE O X c tc)
    (hm : lastMarks [op, op'] [b, c] = false := by with_unfolding_all rfl) : DE O X (.Compare a [op, op'] [b, c] pos) (dChain rd rd' ta tb tc) := pe_weak (pe_chain ho ho' ha hb hc hm) (lchain h h')
theorem dt_chain {op op' : CmpOp} (ho : OpR X (compareOp op) r) (ho' : OpR X (compareOp op') r') (h : OpD X.K r rd) (h' : OpD X.K r' rd') (ha : DE O X a ta) (hb : DE O X b tb) (hc : DE O X c tc)
    (hm : lastMarks [op, op'] [b, c] = false := by with_unfolding_all rfl) : DT O X (.Compare a [op, op'] [b, c] pos) (dTest (dChain rd rd' ta tb tc)) := pt_weak (pt_chain ho ho' ha hb hc hm) (ltest (lchain h h'))

/-! ### and, or, not as tests -/
def dAnd (t u : DTT) : DTT := fun δ μ q => t δ μ fun b μ1 => if b = true then u δ μ1 q else q false μ1
def dOr (t u : DTT) : DTT := fun δ μ q => t δ μ fun b μ1 => if b = true then q true μ1 else u δ μ1 q
def dNot (t : DTT) : DTT := fun δ μ q => t δ μ fun b μ1 => q (!b) μ1
theorem dw_and1 (h : DT O X a tA) : DW O X (.BoolOp .And [a] pos) tA := pw_and1 h
theorem dw_or1 (h : DT O X a tA) : DW O X (.BoolOp .Or [a] pos) tA := pw_or1 h
theorem dw_and (ha : DT O X a tA) (hb : DW O X (.BoolOp .And (b :: rest) pos) tB') : DW O X (.BoolOp .And (a :: b :: rest) pos) (dAnd tA tB') := pw_weak (pw_and ha hb) fun σ H Q ⟨F, δ, μ, q, hd, rs, t, k⟩ =>
  ⟨F, δ, μ, _, hd, rs, t, fun F1 H1 μ1 b e1 hd1 t1 => by
    cases b with
    | true =>
      rw [if_pos rfl] at t1 ⊢
      exact ⟨F1, δ, μ1, q, hd1, rs.ext e1, t1, fun F2 H2 μ2 b e2 hd2 t2 => k F2 H2 μ2 b (e1.trans e2) hd2 t2⟩
    | false =>
      rw [if_neg Bool.false_ne_true] at t1 ⊢
      exact k F1 H1 μ1 false e1 hd1 t1⟩
theorem dw_or (ha : DT O X a tA) (hb : DW O X (.BoolOp .Or (b :: rest) pos) tB') : DW O X (.BoolOp .Or (a :: b :: rest) pos) (dOr tA tB') := pw_weak (pw_or ha hb) fun σ H Q ⟨F, δ, μ, q, hd, rs, t, k⟩ =>
  ⟨F, δ, μ, _, hd, rs, t, fun F1 H1 μ1 b e1 hd1 t1 => by
    cases b with
    | true =>
      rw [if_pos rfl] at t1 ⊢
      exact k F1 H1 μ1 true e1 hd1 t1
    | false =>
      rw [if_neg Bool.false_ne_true] at t1 ⊢
      exact ⟨F1, δ, μ1, q, hd1, rs.ext e1, t1, fun F2 H2 μ2 b e2 hd2 t2 => k F2 H2 μ2 b (e1.trans e2) hd2 t2⟩⟩
theorem dt_not (ha : DT O X a tA) : DT O X (.UnaryOp .Not a pos) (dNot tA) := pt_weak (pt_not ha) fun σ H Q ⟨F, δ, μ, q, hd, rs, t, k⟩ =>
  ⟨F, δ, μ, _, hd, rs, t, fun F1 H1 μ1 b e1 hd1 t1 => k F1 H1 μ1 (!b) e1 hd1 t1⟩
theorem dt_bool (ha : DE O X a ta) (he : ∀ whole, isTrue a X.env whole = (do let v ← whole; standAt a.pos; holding [v] (truthy v)) := by intro _; rfl) : DT O X a (dTest ta) := dt_val ha (pt_val ha he)
/-! ### as values: by truth -/
def truOf (μ : Mu) : D → Option Bool
  | .non => some false
  | .bl b => some b
  | .int i => some (i != 0)
  | .tup l => some (!l.isEmpty)
  | d => (lstOf μ d).map fun l => !l.isEmpty
theorem isEmpty_repL {K : PySem.W.Frag} {F : Zo} {H : Hp} {l : List D} {vs : List V} (h : RepL K F H l vs) : vs.isEmpty = l.isEmpty := by
  have := h.length
  cases l <;> cases vs <;> simp_all
theorem tru_rep {K : PySem.W.Frag} {F : Zo} {H : Hp} {μ : Mu} {d : D} {v : V} {b : Bool} (hd : Hd K O F H μ) (r : Rep K F H d v) (h : truOf μ d = some b) : TruV K v H b := by
  have lst : ∀ l : List D, lstOf μ d = some l → (!l.isEmpty) = b → TruV K v H b := fun l e q => by
    obtain ⟨a, vs, rfl, h2, h3⟩ := list_sq hd r e
    exact .inl ⟨vs, h2, by rw [isEmpty_repL h3]; exact q.symm⟩
  cases d with
  | non =>
    obtain rfl : v = .non := r
    simp [truOf] at h; exact h
  | bl b => obtain rfl : v = .bl b := r; simp [truOf] at h; exact h.symm
  | int i =>
    obtain rfl : v = .int i := r
    have h : some (i != 0) = some b := h
    exact (Option.some.inj h).symm
  | str x => simp [truOf, lstOf] at h
  | typ x => simp [truOf, lstOf] at h
  | ins _ _ _ => simp [truOf, lstOf] at h
  | tup l =>
    obtain ⟨a, vs, rfl, h2, h3⟩ := r
    have h : some (!l.isEmpty) = some b := h
    exact .inr (.inl ⟨vs, h2.sq, by rw [isEmpty_repL h3]; exact (Option.some.inj h).symm⟩)
  | lst l => exact lst l rfl (Option.some.inj h)
  | rol l => exact lst l rfl (Option.some.inj h)
  | adr p =>
    have h : (lstOf μ (.adr p)).map (fun l => !l.isEmpty) = some b := h
    cases e : lstOf μ (.adr p) with
    | none => rw [e] at h; cases h
    | some l => rw [e] at h; exact lst l e (Option.some.inj h)
def dTru (ta : DTE) : DTT := fun δ μ q => ta δ μ fun x μ1 => match truOf μ1 x with | some b => q b μ1 | none => False
theorem dt_truth (ha : DE O X a ta) (he : ∀ whole, isTrue a X.env whole = (do let v ← whole; standAt a.pos; holding [v] (truthy v)) := by intro _; rfl) : DT O X a (dTru ta) := pt_weak (pt_truth ha he) fun σ H Q ⟨F, δ, μ, q, hd, rs, t, k⟩ =>
  ⟨F, δ, μ, _, hd, rs, t, fun F1 H1 μ1 x v e1 hd1 r1 t1 => by
    cases h : truOf μ1 x with
    | none => rw [h] at t1; exact t1.elim
    | some b => rw [h] at t1; exact ⟨b, tru_rep hd1 r1 h, k F1 H1 μ1 b e1 hd1 t1⟩⟩
def dOrT (ta tb : DTE) : DTE := fun δ μ q => ta δ μ fun x μ1 => match truOf μ1 x with | some b => if b = true then q x μ1 else tb δ μ1 q | none => False
def dAndT (ta tb : DTE) : DTE := fun δ μ q => ta δ μ fun x μ1 => match truOf μ1 x with | some b => if b = true then tb δ μ1 q else q x μ1 | none => False
def dNotT (ta : DTE) : DTE := fun δ μ q => ta δ μ fun x μ1 => match truOf μ1 x with | some b => q (.bl (!b)) μ1 | none => False
theorem de_orT (ha : DE O X a ta) (hb : DE O X (.BoolOp .Or (b :: rest) pos) tb) : DE O X (.BoolOp .Or (a :: b :: rest) pos) (dOrT ta tb) := pe_weak (pe_orT ha hb) fun σ H Q ⟨F, δ, μ, q, hd, rs, t, k⟩ =>
  ⟨F, δ, μ, _, hd, rs, t, fun F1 H1 μ1 x v e1 hd1 r1 t1 => by
    cases h : truOf μ1 x with
    | none => rw [h] at t1; exact t1.elim
    | some b =>
      rw [h] at t1
      dsimp only at t1
      refine ⟨b, tru_rep hd1 r1 h, ?_⟩
      cases b with
      | true => rw [if_pos rfl] at t1 ⊢; exact k F1 H1 μ1 x v e1 hd1 r1 t1
      | false => rw [if_neg Bool.false_ne_true] at t1 ⊢; exact ⟨F1, δ, μ1, q, hd1, rs.ext e1, t1, fun F2 H2 μ2 d u e2 hd2 r2 t2 => k F2 H2 μ2 d u (e1.trans e2) hd2 r2 t2⟩⟩
theorem de_andT (ha : DE O X a ta) (hb : DE O X (.BoolOp .And (b :: rest) pos) tb) : DE O X (.BoolOp .And (a :: b :: rest) pos) (dAndT ta tb) := pe_weak (pe_andT ha hb) fun σ H Q ⟨F, δ, μ, q, hd, rs, t, k⟩ =>
  ⟨F, δ, μ, _, hd, rs, t, fun F1 H1 μ1 x v e1 hd1 r1 t1 => by
    cases h : truOf μ1 x with
    | none => rw [h] at t1; exact t1.elim
    | some b =>
      rw [h] at t1
      dsimp only at t1
      refine ⟨b, tru_rep hd1 r1 h, ?_⟩
      cases b with
      | true => rw [if_pos rfl] at t1 ⊢; exact ⟨F1, δ, μ1, q, hd1, rs.ext e1, t1, fun F2 H2 μ2 d u e2 hd2 r2 t2 => k F2 H2 μ2 d u (e1.trans e2) hd2 r2 t2⟩
      | false => rw [if_neg Bool.false_ne_true] at t1 ⊢; exact k F1 H1 μ1 x v e1 hd1 r1 t1⟩
theorem de_one {op} (h : DE O X a ta) : DE O X (.BoolOp op [a] pos) ta := pe_one h
theorem de_not (ha : DE O X a ta) : DE O X (.UnaryOp .Not a pos) (dNotT ta) := pe_weak (pe_notT ha) fun σ H Q ⟨F, δ, μ, q, hd, rs, t, k⟩ =>
  ⟨F, δ, μ, _, hd, rs, t, fun F1 H1 μ1 x v e1 hd1 r1 t1 => by
    cases h : truOf μ1 x with
    | none => rw [h] at t1; exact t1.elim
    | some b => rw [h] at t1; exact ⟨b, tru_rep hd1 r1 h, k F1 H1 μ1 (.bl (!b)) _ e1 hd1 rfl t1⟩⟩
def dIf (c : DTT) (ta tb : DTE) : DTE := fun δ μ q => c δ μ fun b μ1 => if b = true then ta δ μ1 q else tb δ μ1 q
theorem de_if (hc : DT O X c tA) (ha : DE O X a ta) (hb : DE O X b tb) : DE O X (.IfExp c a b pos) (dIf tA ta tb) := pe_weak (pe_ifExp hc ha hb) fun σ H Q ⟨F, δ, μ, q, hd, rs, t, k⟩ =>
  ⟨F, δ, μ, _, hd, rs, t, fun F1 H1 μ1 b e1 hd1 t1 => by
    cases b with
    | true =>
      rw [if_pos rfl] at t1 ⊢
      exact ⟨F1, δ, μ1, q, hd1, rs.ext e1, t1, fun F2 H2 μ2 d u e2 hd2 r2 t2 => k F2 H2 μ2 d u (e1.trans e2) hd2 r2 t2⟩
    | false =>
      rw [if_neg Bool.false_ne_true] at t1 ⊢
      exact ⟨F1, δ, μ1, q, hd1, rs.ext e1, t1, fun F2 H2 μ2 d u e2 hd2 r2 t2 => k F2 H2 μ2 d u (e1.trans e2) hd2 r2 t2⟩⟩
end

/-! ### the operators over data -/
def rI0D (g : Int → Int → D) : DR2 := fun x y μ q => match x, y with | .int i, .int j => q (g i j) μ | _, _ => False
def rID (C : Int → Int → Prop) (g : Int → Int → D) : DR2 := fun x y μ q => match x, y with | .int i, .int j => C i j ∧ q (g i j) μ | _, _ => False
section
variable {O : Org} {K : PySem.W.Frag} {X : Cx}
theorem od_I0 {g : Int → Int → V} {gd : Int → Int → D} (h : ∀ i j F H, Rep K F H (gd i j) (g i j)) : OpD K (rI0 g) (rI0D gd) := by
  intro O F H μ x y v w q Q hd rx ry t k
  cases x <;> cases y <;> first | exact False.elim t | skip
  rename_i i j
  obtain rfl : v = .int i := rx
  obtain rfl : w = .int j := ry
  exact ⟨i, j, rfl, rfl, k F H μ _ _ (Ext.refl F H) hd (h i j F H) t⟩
theorem od_I {C C' : Int → Int → Prop} {g : Int → Int → V} {gd : Int → Int → D} (h : ∀ i j F H, Rep K F H (gd i j) (g i j)) (hc : ∀ i j, C' i j → C i j) : OpD K (rI C g) (rID C' gd) := by
  intro O F H μ x y v w q Q hd rx ry t k
  cases x <;> cases y <;> first | exact False.elim t | skip
  rename_i i j
  obtain rfl : v = .int i := rx
  obtain rfl : w = .int j := ry
  exact ⟨i, j, rfl, rfl, hc i j t.1, k F H μ _ _ (Ext.refl F H) hd (h i j F H) t.2⟩
theorem OpD.or {r r' : R2} {rd rd' : DR2} (h : OpD K r rd) (h' : OpD K r' rd') : OpD K (fun x y H Q => r x y H Q ∨ r' x y H Q) (fun x y μ q => rd x y μ q ∨ rd' x y μ q) := by
  intro O F H μ x y v w q Q hd rx ry t k
  rcases t with t | t
  · exact .inl (h O F H μ x y v w q Q hd rx ry t k)
  · exact .inr (h' O F H μ x y v w q Q hd rx ry t k)
theorem OpD.imp {r : R2} {rd rd' : DR2} (h : OpD K r rd) (i : ∀ x y μ q, rd' x y μ q → rd x y μ q) : OpD K r rd' := fun O F H μ x y v w q Q hd rx ry t k => h O F H μ x y v w q Q hd rx ry (i x y μ q t) k
/-- the text line -/
def rAddS : DR2 := fun x y μ q => match x, y with | .str i, .str j => i.length + j.length ≤ sizeLine ∧ q (.str (i ++ j)) μ | _, _ => False
def rAddT : DR2 := fun x y μ q => match x, y with | .tup l, .tup m => l ≠ [] ∧ l.length + m.length ≤ sizeLine ∧ q (.tup (l ++ m)) μ | _, _ => False
def rAddL : DR2 := fun x y μ q => ∃ l m, catOf μ x = some l ∧ catOf μ y = some m ∧ l.length + m.length ≤ sizeLine ∧ q (.lst (l ++ m)) μ
/-- the sum is to be written -/
def rAddM : DR2 := fun x y μ q => ∃ l m, catOf μ x = some l ∧ catOf μ y = some m ∧ l.length + m.length ≤ sizeLine ∧ ∀ p, μ p = none → q (.adr p) (updM μ p (.lst (l ++ m)))
theorem od_addS : OpD K (fun x y H Q => ∃ i j, x = .str i ∧ y = .str j ∧ i.length + j.length ≤ sizeLine ∧ Q (.str (i ++ j)) H) rAddS := by
  intro O F H μ x y v w q Q hd rx ry t k
  cases x <;> cases y <;> first | exact False.elim t | skip
  rename_i i j
  obtain rfl : v = .str i := rx
  obtain rfl : w = .str j := ry
  exact ⟨i, j, rfl, rfl, t.1, k F H μ _ _ (Ext.refl F H) hd (show Rep K F H (.str (i ++ j)) (.str (i ++ j)) from rfl) t.2⟩
theorem od_addT : OpD K (rCatT K) rAddT := by
  intro O F H μ x y v w q Q hd rx ry t k
  cases x <;> cases y <;> first | exact False.elim t | skip
  rename_i l m
  obtain ⟨a, vs, rfl, h1, h2⟩ := rx
  obtain ⟨b, ws, rfl, h3, h4⟩ := ry
  obtain ⟨t1, t2, t3⟩ := t
  have e1 := h2.length
  have e2 := h4.length
  refine ⟨a, b, vs, ws, rfl, rfl, h1.sq, h3.sq, ?_, by omega, ?_, ?_⟩
  · intro z; subst z; apply t1; cases l with
    | nil => rfl
    | cons _ _ => simp at e1
  · intro z
    subst z
    cases m with
    | nil =>
      rw [List.append_nil] at t3
      exact k F H μ (.tup l) _ (Ext.refl F H) hd ⟨a, vs, rfl, h1, h2⟩ t3
    | cons _ _ => simp at e2
  · intro _ p hp
    exact k _ _ μ (.tup (l ++ m)) (.ref p) (ext_newF hd hp) (hd.newF hp) ⟨p, vs ++ ws, rfl, .inl ⟨.inr rfl, .inl upd_same⟩, (h2.append h4).ext (ext_newF hd hp)⟩ t3
theorem od_addL : OpD K rCat rAddL := by
  intro O F H μ x y v w q Q hd rx ry ⟨l, m, e1, e2, t2, t3⟩ k
  obtain ⟨a, vs, rfl, h1, h2⟩ := list_cat hd rx e1
  obtain ⟨b, ws, rfl, h3, h4⟩ := list_cat hd ry e2
  have e1 := h2.length
  have e2 := h4.length
  exact ⟨a, b, vs, ws, rfl, rfl, h1, h3, by omega, fun p hp => k _ _ μ (.lst (l ++ m)) (.ref p) (ext_newF hd hp) (hd.newF hp) ⟨p, vs ++ ws, rfl, ⟨.inr rfl, upd_same⟩, (h2.append h4).ext (ext_newF hd hp)⟩ t3⟩
theorem od_addM : OpD K rCat rAddM := by
  intro O F H μ x y v w q Q hd rx ry ⟨l, m, e1, e2, t2, t3⟩ k
  obtain ⟨a, vs, rfl, h1, h2⟩ := list_cat hd rx e1
  obtain ⟨b, ws, rfl, h3, h4⟩ := list_cat hd ry e2
  have e1 := h2.length
  have e2 := h4.length
  exact ⟨a, b, vs, ws, rfl, rfl, h1, h3, by omega, fun p hp => k _ _ _ (.adr p) (.ref p) (ext_new hd hp) (hd.newM (m := .lst (l ++ m)) hp ⟨vs ++ ws, upd_same, (h2.append h4).ext (ext_new hd hp)⟩) rfl (t3 p (hd.free hp))⟩
/-- a + b: whole numbers, texts, tuples, lists -/
def rAddD : DR2 := fun x y μ q => match x, y with
  | .int i, .int j => q (.int (i + j)) μ
  | .str i, .str j => i.length + j.length ≤ sizeLine ∧ q (.str (i ++ j)) μ
  | .tup l, .tup m => l ≠ [] ∧ l.length + m.length ≤ sizeLine ∧ q (.tup (l ++ m)) μ
  | .lst l, .lst m => l.length + m.length ≤ sizeLine ∧ q (.lst (l ++ m)) μ
  | x, y => rAddL x y μ q
theorem op_addA : OpR X (binaryOp .Add) (fun x y H Q => (rI0 fun i j => .int (i + j)) x y H Q ∨ (fun x y H Q => (fun x y H Q => ∃ i j, x = .str i ∧ y = .str j ∧ i.length + j.length ≤ sizeLine ∧ Q (.str (i ++ j)) H) x y H Q ∨ (fun x y H Q => rCatT X.K x y H Q ∨ rCat x y H Q) x y H Q) x y H Q) :=
  op_add.or (op_add_str.or (op_catT.or op_cat))
theorem od_addA : OpD K (fun x y H Q => (rI0 fun i j => .int (i + j)) x y H Q ∨ (fun x y H Q => (fun x y H Q => ∃ i j, x = .str i ∧ y = .str j ∧ i.length + j.length ≤ sizeLine ∧ Q (.str (i ++ j)) H) x y H Q ∨ (fun x y H Q => rCatT K x y H Q ∨ rCat x y H Q) x y H Q) x y H Q) rAddD := by
  refine OpD.imp ((od_I0 (gd := fun i j => .int (i + j)) fun i j F H => (show Rep K F H (.int _) _ from rfl)).or (od_addS.or (od_addT.or od_addL))) fun x y μ q t => ?_
  unfold rAddD at t
  split at t
  · exact .inl t
  · exact .inr (.inl t)
  · exact .inr (.inr (.inl t))
  · exact .inr (.inr (.inr ⟨_, _, rfl, rfl, t.1, t.2⟩))
  · exact .inr (.inr (.inr t))
theorem de_add {a b : Expr} {ta tb : DTE} {pos : Pos} (ha : DE O X a ta) (hb : DE O X b tb) : DE O X (.BinOp a .Add b pos) (dOp rAddD ta tb) := de_op op_addA od_addA ha hb
theorem de_addM {a b : Expr} {ta tb : DTE} {pos : Pos} (ha : DE O X a ta) (hb : DE O X b tb) : DE O X (.BinOp a .Add b pos) (dOp rAddM ta tb) := de_op op_cat od_addM ha hb
theorem rep_int {F : Zo} {H : Hp} {i : Int} : Rep K F H (.int i) (.int i) := rfl
theorem rep_bl {F : Zo} {H : Hp} {i : Bool} : Rep K F H (.bl i) (.bl i) := rfl
def rSubD : DR2 := rI0D fun i j => .int (i - j)
theorem de_sub {a b : Expr} {ta tb : DTE} {pos : Pos} (ha : DE O X a ta) (hb : DE O X b tb) : DE O X (.BinOp a .Sub b pos) (dOp rSubD ta tb) := de_op op_sub (od_I0 fun _ _ _ _ => rep_int) ha hb
/-- numbers of so many bits -/
def CMulD (i j : Int) : Prop := ∃ a b : Nat, i.natAbs < 2 ^ a ∧ j.natAbs < 2 ^ b ∧ a + b ≤ 134217728
def rMulD : DR2 := rID CMulD fun i j => .int (i * j)
theorem de_mul {a b : Expr} {ta tb : DTE} {pos : Pos} (ha : DE O X a ta) (hb : DE O X b tb) : DE O X (.BinOp a .Mult b pos) (dOp rMulD ta tb) := de_op op_mulX (od_I (fun _ _ _ _ => rep_int) fun _ _ ⟨_, _, h1, h2, h3⟩ => mulx_ok h1 h2 h3) ha hb
def CDivD (i j : Int) : Prop := 0 < j ∧ ∃ b : Nat, j.natAbs < 2 ^ b ∧ 0 < b ∧ b ≤ 9000
def rDivD : DR2 := rID CDivD fun i j => .int (i / j)
theorem de_fdiv {a b : Expr} {ta tb : DTE} {pos : Pos} (ha : DE O X a ta) (hb : DE O X b tb) : DE O X (.BinOp a .FloorDiv b pos) (dOp rDivD ta tb) := de_op op_fdivW (od_I (fun _ _ _ _ => rep_int) fun _ _ ⟨h1, _, h2, h3, h4⟩ => wide_div h1 h2 h3 h4) ha hb
def CModD (_ j : Int) : Prop := 0 < j
def rModD : DR2 := rID CModD fun i j => .int (i % j)
theorem de_mod {a b : Expr} {ta tb : DTE} {pos : Pos} (ha : DE O X a ta) (hb : DE O X b tb) : DE O X (.BinOp a .Mod b pos) (dOp rModD ta tb) := de_op op_mod (od_I (fun _ _ _ _ => rep_int) fun _ _ h => h) ha hb
/-- a ** b of numbers of any size -/
def CPowW (i j : Int) : Prop := 0 ≤ j ∧ (Builtin.Int.intBits i : Int) * j ≤ 2 ^ 27
theorem op_powW : OpR X (binaryOp .Pow) (rI CPowW fun i j => .int (i ^ j.toNat)) := opI fun _ _ _ _ _ _ _ hc q => pow_int hc.1 hc.2 q
theorem bits_le {i : Int} {n : Nat} (h : i.natAbs < 2 ^ n) : (Builtin.Int.intBits i : Int) ≤ n := by
  unfold Builtin.Int.intBits
  split
  · omega
  · rename_i hi
    have h0 : i.natAbs ≠ 0 := by
      intro z
      apply hi
      have : i = 0 := Int.natAbs_eq_zero.mp z
      simp [this]
    have : i.natAbs.log2 < n := (Nat.log2_lt h0).mpr h
    omega
def CPowD (i j : Int) : Prop := 0 ≤ j ∧ ∃ a : Nat, i.natAbs < 2 ^ a ∧ (a : Int) * j ≤ 134217728
def rPowD : DR2 := rID CPowD fun i j => .int (i ^ j.toNat)
theorem de_pow {a b : Expr} {ta tb : DTE} {pos : Pos} (ha : DE O X a ta) (hb : DE O X b tb) : DE O X (.BinOp a .Pow b pos) (dOp rPowD ta tb) := de_op op_powW (od_I (fun _ _ _ _ => rep_int) fun i j ⟨h1, a, h2, h3⟩ => by
  refine ⟨h1, ?_⟩
  have h4 := bits_le h2
  have h5 : (Builtin.Int.intBits i : Int) * j ≤ (a : Int) * j := Int.mul_le_mul_of_nonneg_right h4 h1
  have h6 : (2 : Int) ^ 27 = 134217728 := by decide
  rw [h6]
  omega) ha hb
def rNegD : DU := fun x μ q => match x with | .int i => q (.int (-i)) μ | _ => False
theorem de_neg {a : Expr} {ta : DTE} {pos : Pos} (ha : DE O X a ta) : DE O X (.UnaryOp .USub a pos) (dUn rNegD ta) := de_un un_neg (fun O F H μ x v q Q hd rx t k => by
  cases x <;> first | exact False.elim t | skip
  rename_i i
  obtain rfl : v = .int i := rx
  exact ⟨i, rfl, k F H μ _ _ (Ext.refl F H) hd rep_int t⟩) ha
/-! comparisons -/
def rLtD : DR2 := rI0D fun i j => .bl (decide (i < j))
def rLeD : DR2 := rI0D fun i j => .bl (decide (i ≤ j))
def rGtD : DR2 := rI0D fun i j => .bl (decide (j < i))
def rGeD : DR2 := rI0D fun i j => .bl (decide (j ≤ i))
theorem od_lt : OpD K (rI0 fun i j => .bl (decide (i < j))) rLtD := od_I0 fun _ _ _ _ => rep_bl
theorem od_le : OpD K (rI0 fun i j => .bl (decide (i ≤ j))) rLeD := od_I0 fun _ _ _ _ => rep_bl
theorem od_gt : OpD K (rI0 fun i j => .bl (decide (j < i))) rGtD := od_I0 fun _ _ _ _ => rep_bl
theorem od_ge : OpD K (rI0 fun i j => .bl (decide (j ≤ i))) rGeD := od_I0 fun _ _ _ _ => rep_bl
end
end DL

set_option Elab.async false
set_option linter.all false
set_option maxRecDepth 100000
namespace DL
open PySem L2 PySem.Spec PyProof.Rows

/-! ### data that == compares -/
mutual
def pyD : D → PyData
  | .bl b => .bool b
  | .int i => .int i
  | .str x => .str x
  | .tup l => .tuple (pyDs l)
  | .lst l => .list (pyDs l)
  | .rol l => .list (pyDs l)
  | _ => .none
def pyDs : List D → List PyData
  | [] => []
  | d :: l => pyD d :: pyDs l
end
mutual
/-- data, of a depth at most k -/
def plainD : Nat → D → Bool
  | _, .non => true
  | _, .bl _ => true
  | _, .int _ => true
  | _, .str x => PyData.strOk x
  | k + 1, .tup l => plainDs k l
  | k + 1, .lst l => plainDs k l
  | k + 1, .rol l => plainDs k l
  | _, _ => false
def plainDs : Nat → List D → Bool
  | _, [] => true
  | k, d :: l => plainD k d && plainDs k l
end
theorem plainDs_iff {k : Nat} : ∀ {l : List D}, plainDs k l = true ↔ ∀ d ∈ l, plainD k d = true
  | [] => by simp [plainDs]
  | d :: l => by simp [plainDs, plainDs_iff (l := l)]
theorem pyDs_map : ∀ l : List D, pyDs l = l.map pyD
  | [] => rfl
  | d :: l => by rw [pyDs, pyDs_map l]; rfl
def nrm (μ : Mu) : D → D
  | .adr p => match μ p with
    | some (.lst l) => .lst l
    | _ => .adr p
  | d => d
section
variable {O : Org} {K : PySem.W.Frag} {F F' : Zo} {H H' : Hp} {μ μ' : Mu}
mutual
theorem dp_of {k : Nat} : ∀ (d : D) (v : V), plainD k d = true → Rep K F H d v → Dp K H v (pyD d)
  | .non, v, _, h => by obtain rfl : v = .non := h; exact .non
  | .bl b, v, _, h => by obtain rfl : v = .bl b := h; exact .bl b
  | .int b, v, _, h => by obtain rfl : v = .int b := h; exact .int b
  | .str b, v, _, h => by obtain rfl : v = .str b := h; exact .str b
  | .adr _, _, p, _ => by simp [plainD] at p
  | .typ _, _, p, _ => by simp [plainD] at p
  | .ins _ _ _, _, p, _ => by simp [plainD] at p
  | .tup l, v, p, ⟨a, vs, h1, h2, h3⟩ => by
    subst h1
    cases k with
    | zero => simp [plainD] at p
    | succ k => exact .tup h2.sq (dps_of l vs p h3)
  | .lst l, v, p, ⟨a, vs, h1, h2, h3⟩ => by
    subst h1
    cases k with
    | zero => simp [plainD] at p
    | succ k => exact .lst (SqL.of h2.2) (dps_of l vs p h3)
  | .rol l, v, p, ⟨a, vs, h1, h2, h3⟩ => by
    subst h1
    cases k with
    | zero => simp [plainD] at p
    | succ k => exact .lst h2.sq (dps_of l vs p h3)
theorem dps_of {k : Nat} : ∀ (l : List D) (vs : List V), plainDs k l = true → RepL K F H l vs → DpAll K H vs (pyDs l)
  | [], vs, _, h => by
    obtain rfl : vs = [] := h
    exact .nil
  | d :: l, _, p, ⟨v, r, h1, h2, h3⟩ => by
    subst h1
    have p : (plainD k d && plainDs k l) = true := p
    rw [Bool.and_eq_true] at p
    exact .cons (dp_of d v p.1 h2) (dps_of l r p.2 h3)
end
mutual
theorem plain_lay {k : Nat} : ∀ (d : D), plainD k d = true → (pyD d).canLay0 = true ∧ (pyD d).depth ≤ k
  | .non, _ => ⟨rfl, Nat.zero_le _⟩
  | .bl b, _ => ⟨rfl, Nat.zero_le _⟩
  | .int b, _ => ⟨rfl, Nat.zero_le _⟩
  | .str b, p => ⟨p, Nat.zero_le _⟩
  | .adr _, p => by simp [plainD] at p
  | .typ _, p => by simp [plainD] at p
  | .ins _ _ _, p => by simp [plainD] at p
  | .tup l, p => by
    cases k with
    | zero => simp [plainD] at p
    | succ k => exact let h := plain_lays l p; ⟨h.1, Nat.succ_le_succ h.2⟩
  | .lst l, p => by
    cases k with
    | zero => simp [plainD] at p
    | succ k => exact let h := plain_lays l p; ⟨h.1, Nat.succ_le_succ h.2⟩
  | .rol l, p => by
    cases k with
    | zero => simp [plainD] at p
    | succ k => exact let h := plain_lays l p; ⟨h.1, Nat.succ_le_succ h.2⟩
theorem plain_lays {k : Nat} : ∀ (l : List D), plainDs k l = true → PyData.canLayAll0 (pyDs l) = true ∧ PyData.depthAll (pyDs l) ≤ k
  | [], _ => ⟨rfl, Nat.zero_le _⟩
  | d :: l, p => by
    have p : (plainD k d && plainDs k l) = true := p
    rw [Bool.and_eq_true] at p
    obtain ⟨h1, h2⟩ := plain_lay d p.1
    obtain ⟨h3, h4⟩ := plain_lays l p.2
    refine ⟨?_, ?_⟩
    · show (PyData.canLay0 (pyD d) && PyData.canLayAll0 (pyDs l)) = true
      rw [h1, h3]; rfl
    · show max (PyData.depth (pyD d)) (PyData.depthAll (pyDs l)) ≤ k
      omega
end
theorem shaped_of {d : D} (p : plainD 64 d = true) : SeqAt.shaped (pyD d) = true := by
  obtain ⟨h1, h2⟩ := plain_lay d p
  unfold SeqAt.shaped
  rw [h1, decide_eq_true h2]; rfl
theorem nrm_rep {d : D} {v : V} (hd : Hd K O F H μ) (p : plainD 64 (nrm μ d) = true) (r : Rep K F H d v) : Dp K H v (pyD (nrm μ d)) := by
  cases d with
  | adr a =>
    obtain rfl : v = .ref a := r
    cases hm : μ a with
    | none => simp [nrm, hm, plainD] at p
    | some m =>
      cases m with
      | lst l =>
        have e : nrm μ (.adr a) = .lst l := by simp [nrm, hm]
        rw [e] at p ⊢
        have p : plainDs 63 l = true := p
        obtain ⟨_, vs, h1, h2⟩ := hd.own a _ hm
        exact .lst (SqL.of h1) (dps_of (k := 63) l vs p h2)
      | dic _ => simp [nrm, hm, plainD] at p
      | obj _ _ _ => simp [nrm, hm, plainD] at p
  | _ => exact dp_of _ _ p r
end
/-- == as data -/
def eqD (x y : D) : Bool := PyData.eqv (pyD x) (pyD y)
theorem eqD_refl {k : Nat} {d : D} (p : plainD k d = true) : eqD d d = true := SeqAt.eqv_refl _ (plain_lay d p).1
theorem eqD_int (i j : Int) : eqD (.int i) (.int j) = decide (i = j) := by
  show (i == j) = decide (i = j)
  exact Bool.beq_eq_decide_eq i j
theorem eqD_str (i j : Str) : eqD (.str i) (.str j) = decide (i = j) := by
  show (i == j) = decide (i = j)
  exact Bool.beq_eq_decide_eq i j
theorem eqD_tup (l m : List D) : eqD (.tup l) (.tup m) = PyData.eqvAll (pyDs l) (pyDs m) := rfl
theorem eqD_lst (l m : List D) : eqD (.lst l) (.lst m) = PyData.eqvAll (pyDs l) (pyDs m) := rfl
theorem eqvAll_cons (d e : D) (l m : List D) : PyData.eqvAll (pyDs (d :: l)) (pyDs (e :: m)) = (eqD d e && PyData.eqvAll (pyDs l) (pyDs m)) := rfl
def rEqG : DR2 := fun x y μ q => match x, y with
  | .int i, .int j => q (.bl (decide (i = j))) μ
  | .str i, .str j => q (.bl (decide (i = j))) μ
  | x, y => plainD 64 (nrm μ x) = true ∧ plainD 64 (nrm μ y) = true ∧ q (.bl (eqD (nrm μ x) (nrm μ y))) μ
def rNeG : DR2 := fun x y μ q => match x, y with
  | .int i, .int j => q (.bl (!decide (i = j))) μ
  | .str i, .str j => q (.bl (!decide (i = j))) μ
  | x, y => plainD 64 (nrm μ x) = true ∧ plainD 64 (nrm μ y) = true ∧ q (.bl (!eqD (nrm μ x) (nrm μ y))) μ
section
variable {O : Org} {K : PySem.W.Frag} {X : Cx} {a b : Expr} {ta tb : DTE} {pos : Pos}
theorem op_eqA (hu : X.A.units + 64 < cLine) : OpR X (compareOp .Eq) (fun x y H Q => rEq x y H Q ∨ rEqD X.K x y H Q) := op_eq.or (op_eqD hu)
theorem op_neA (hu : X.A.units + 64 < cLine) : OpR X (compareOp .NotEq) (fun x y H Q => rNe x y H Q ∨ rNeD X.K x y H Q) := op_ne.or (op_neD hu)
theorem decV_int (i j : Int) : decide (V.int i = V.int j) = decide (i = j) := by
  by_cases h : i = j
  · subst h; simp
  · rw [decide_eq_false h, decide_eq_false fun e => h (V.int.inj e)]
theorem decV_str (i j : Str) : decide (V.str i = V.str j) = decide (i = j) := by
  by_cases h : i = j
  · subst h; simp
  · rw [decide_eq_false h, decide_eq_false fun e => h (V.str.inj e)]
theorem od_eqA : OpD K (fun x y H Q => rEq x y H Q ∨ rEqD K x y H Q) rEqG := by
  intro O F H μ x y v w q Q hd rx ry t k
  unfold rEqG at t
  split at t
  · rename_i i j
    obtain rfl : v = .int i := rx
    obtain rfl : w = .int j := ry
    exact .inl ⟨rfl, k F H μ (.bl (decide (i = j))) _ (Ext.refl F H) hd (by rw [decV_int]; exact rep_bl) t⟩
  · rename_i i j
    obtain rfl : v = .str i := rx
    obtain rfl : w = .str j := ry
    exact .inl ⟨rfl, k F H μ (.bl (decide (i = j))) _ (Ext.refl F H) hd (by rw [decV_str]; exact rep_bl) t⟩
  · obtain ⟨t1, t2, t3⟩ := t
    exact .inr ⟨_, _, nrm_rep hd t1 rx, nrm_rep hd t2 ry, shaped_of t1, shaped_of t2, k F H μ _ _ (Ext.refl F H) hd rep_bl t3⟩
theorem od_neA : OpD K (fun x y H Q => rNe x y H Q ∨ rNeD K x y H Q) rNeG := by
  intro O F H μ x y v w q Q hd rx ry t k
  unfold rNeG at t
  split at t
  · rename_i i j
    obtain rfl : v = .int i := rx
    obtain rfl : w = .int j := ry
    exact .inl ⟨rfl, k F H μ (.bl (!decide (i = j))) _ (Ext.refl F H) hd (by rw [decV_int]; exact rep_bl) t⟩
  · rename_i i j
    obtain rfl : v = .str i := rx
    obtain rfl : w = .str j := ry
    exact .inl ⟨rfl, k F H μ (.bl (!decide (i = j))) _ (Ext.refl F H) hd (by rw [decV_str]; exact rep_bl) t⟩
  · obtain ⟨t1, t2, t3⟩ := t
    exact .inr ⟨_, _, nrm_rep hd t1 rx, nrm_rep hd t2 ry, shaped_of t1, shaped_of t2, k F H μ _ _ (Ext.refl F H) hd rep_bl t3⟩
/-- is None -/
def isNonD : D → Bool
  | .non => true
  | _ => false
def rIsNG : DR2 := fun x y μ q => match y with | .non => q (.bl (isNonD x)) μ | _ => False
def rNotNG : DR2 := fun x y μ q => match y with | .non => q (.bl (!isNonD x)) μ | _ => False
theorem isNon_rep {F : Zo} {H : Hp} {d : D} {v : V} (r : Rep K F H d v) : decide (v = V.non) = isNonD d := by
  cases d <;> first
    | (have r : v = _ := r; subst r; rfl)
    | (obtain ⟨a, vs, rfl, _⟩ := r; rfl)
    | (obtain ⟨a, dx, vs, rfl, _⟩ := r; rfl)
theorem od_isN : OpD K (fun x y H Q => y = .non ∧ Q (.bl (decide (x = .non))) H) rIsNG := by
  intro O F H μ x y v w q Q hd rx ry t k
  cases y <;> first | exact False.elim t | skip
  obtain rfl : w = .non := ry
  exact ⟨rfl, k F H μ (.bl (isNonD x)) _ (Ext.refl F H) hd (by rw [isNon_rep rx]; exact rep_bl) t⟩
theorem od_notN : OpD K (fun x y H Q => y = .non ∧ Q (.bl (!decide (x = .non))) H) rNotNG := by
  intro O F H μ x y v w q Q hd rx ry t k
  cases y <;> first | exact False.elim t | skip
  obtain rfl : w = .non := ry
  exact ⟨rfl, k F H μ (.bl (!isNonD x)) _ (Ext.refl F H) hd (by rw [isNon_rep rx]; exact rep_bl) t⟩

/-! ### items -/
/-- xs[i], i an int in its bounds: of a list, a tuple, a text -/
def rIxG : DR2 := fun x y μ q => match y with
  | .int i => match x with
    | .tup l => match atI l i with | some d => q d μ | none => False
    | .str z => z.length ≤ sizeLine ∧ match atI z.cps.toList i with | some c => q (.str ⟨#[c]⟩) μ | none => False
    | .adr p => ∃ l d, μ p = some (.lst l) ∧ atI l i = some d ∧ q d μ
    | x => match lstOf μ x with
      | some l => match atI l i with | some d => q d μ | none => False
      | none => False
  | _ => False
theorem atI_rep {F : Zo} {H : Hp} {l : List D} {vs : List V} {i : Int} {d : D} (r : RepL K F H l vs) (h : atI l i = some d) : ∃ v, atI vs i = some v ∧ Rep K F H d v := by
  unfold atI at h ⊢
  rw [← r.length]
  cases e : ixN l.length i with
  | none => rw [e] at h; simp at h
  | some j =>
    rw [e] at h
    have h : l[j]? = some d := by simpa using h
    obtain ⟨v, h1, h2⟩ := r.get h
    exact ⟨v, by simpa using h1, h2⟩
theorem od_ix : OpD K (rIx K) rIxG := by
  intro O F H μ x y v w q Q hd rx ry t k
  unfold rIxG at t
  split at t
  · rename_i i
    obtain rfl : w = .int i := ry
    split at t
    · rename_i l
      obtain ⟨a, vs, rfl, h1, h2⟩ := rx
      split at t
      · rename_i d e
        obtain ⟨u, e1, e2⟩ := atI_rep h2 e
        exact .inr (.inl ⟨a, vs, i, u, rfl, rfl, h1.sq, e1, k F H μ d u (Ext.refl F H) hd e2 t⟩)
      · exact t.elim
    · rename_i z
      obtain rfl : v = .str z := rx
      obtain ⟨t1, t⟩ := t
      split at t
      · rename_i c e
        exact .inr (.inr ⟨z, i, c, rfl, rfl, t1, e, k F H μ _ _ (Ext.refl F H) hd (show Rep K F H (.str _) (.str _) from rfl) t⟩)
      · exact t.elim
    · obtain ⟨l, d, hm, e, t⟩ := t
      rename_i p
      obtain ⟨a, vs, rfl, h1, h2⟩ := list_sq hd rx (show lstOf μ (.adr p) = some l by show (match μ p with | some (.lst l) => some l | _ => none) = some l; rw [hm])
      obtain ⟨u, e1, e2⟩ := atI_rep h2 e
      exact .inl ⟨a, vs, i, u, rfl, rfl, h1, e1, k F H μ d u (Ext.refl F H) hd e2 t⟩
    · split at t
      · rename_i l e0
        obtain ⟨a, vs, rfl, h1, h2⟩ := list_sq hd rx e0
        split at t
        · rename_i d e
          obtain ⟨u, e1, e2⟩ := atI_rep h2 e
          exact .inl ⟨a, vs, i, u, rfl, rfl, h1, e1, k F H μ d u (Ext.refl F H) hd e2 t⟩
        · exact t.elim
      · exact t.elim
  · exact t.elim
theorem de_ix (ha : DE O X a ta) (hb : DE O X b tb) (hs : PlainIx b := by exact fun _ _ => rfl) : DE O X (.Subscript a b pos) (dOp rIxG ta tb) := pe_weak (pe_ix ix_seq ha hb hs) (lop od_ix)
end
/-! ### slices -/
abbrev DTO := DS → Mu → (Option Int → Mu → Prop) → Prop
def LO (K : PySem.W.Frag) (O : Org) (t : DTO) : TO := fun σ H Q => ∃ F δ μ q, Hd K O F H μ ∧ RepS K F H δ σ ∧ t δ μ q ∧ ∀ F' H' μ' o, Ext F H F' H' → Hd K O F' H' μ' → q o μ' → Q o H'
abbrev DO (O : Org) (X : Cx) (e : Option Expr) (t : DTO) : Prop := PO X e (LO X.K O t)
def dNoPart : DTO := fun _ μ q => q none μ
def dPart (t : DTE) : DTO := fun δ μ q => t δ μ fun x μ1 => match x with | .int i => q (some i) μ1 | _ => False
/-- l[lo:hi] -/
def cutD (l : List D) (lo hi : Option Int) : List D := (l.drop (HT.sIx l.length 0 lo)).take (HT.sIx l.length l.length hi - HT.sIx l.length 0 lo)
section
variable {O : Org} {K : PySem.W.Frag} {X : Cx} {a b e : Expr} {ta tb te : DTE} {pos p2 : Pos} {lo hi : Option Expr} {tl tu : DTO}
theorem do_none : DO O X none dNoPart := ⟨fun pins s σ H Q I ⟨F, δ, μ, q, hd, rs, t, k⟩ => po_none.run pins s σ H Q I (k F H μ none (Ext.refl F H) hd t)⟩
theorem do_some (h : DE O X e te) : DO O X (some e) (dPart te) := ⟨fun pins s σ H Q I ⟨F, δ, μ, q, hd, rs, t, k⟩ => (po_some h).run pins s σ H Q I ⟨F, δ, μ, _, hd, rs, t, fun F1 H1 μ1 x v e1 hd1 r1 t1 => by
  cases x <;> first | exact False.elim t1 | skip
  rename_i i
  exact ⟨i, r1, k F1 H1 μ1 (some i) e1 hd1 t1⟩⟩⟩
theorem cut_rep {F : Zo} {H : Hp} {l : List D} {vs : List V} {lo hi : Option Int} (r : RepL K F H l vs) : RepL K F H (cutD l lo hi) (cutV vs lo hi) := by
  unfold cutD cutV
  rw [← r.length]
  exact (r.drop _).take _
def rSlG (x : D) (lo hi : Option Int) (μ : Mu) (q : DK) : Prop := match x with
  | .tup l => if HT.sIx l.length 0 lo = 0 ∧ HT.sIx l.length l.length hi = l.length then False else q (.tup (cutD l lo hi)) μ
  | x => match lstOf μ x with | some l => q (.lst (cutD l lo hi)) μ | none => False
def dSl (te : DTE) (tl tu : DTO) : DTE := fun δ μ q => te δ μ fun x μ1 => tl δ μ1 fun l μ2 => tu δ μ2 fun u μ3 => rSlG x l u μ3 q
theorem de_sl (he : DE O X e te) (hl : DO O X lo tl) (hu : DO O X hi tu) : DE O X (.Subscript e (.Slice lo hi none p2) pos) (dSl te tl tu) :=
  pe_weak (pe_slice (sl_list.or sl_tup) he hl hu) fun σ H Q ⟨F, δ, μ, q, hd, rs, t, k⟩ =>
  ⟨F, δ, μ, _, hd, rs, t, fun F1 H1 μ1 x v e1 hd1 r1 t1 => ⟨F1, δ, μ1, _, hd1, rs.ext e1, t1, fun F2 H2 μ2 o e2 hd2 t2 => ⟨F2, δ, μ2, _, hd2, (rs.ext e1).ext e2, t2, fun F3 H3 μ3 o' e3 hd3 t3 => by
    have r3 := (r1.ext e2).ext e3
    have E := (e1.trans e2).trans e3
    unfold rSlG at t3
    split at t3
    · rename_i l
      obtain ⟨a, vs, rfl, h1, h2⟩ := r3
      split at t3
      · exact t3.elim
      · rename_i hne
        refine .inr ⟨a, vs, rfl, h1.sq, by rw [← h2.length]; exact hne, fun p hp => ?_⟩
        exact k _ _ μ3 (.tup (cutD l o o')) (.ref p) (E.trans (ext_newF hd3 hp)) (hd3.newF hp) ⟨p, _, rfl, .inl ⟨.inr rfl, .inl upd_same⟩, (cut_rep h2).ext (ext_newF hd3 hp)⟩ t3
    · split at t3
      · rename_i l e0
        obtain ⟨a, vs, rfl, h1, h2⟩ := list_sq hd3 r3 e0
        refine .inl ⟨a, vs, rfl, h1, fun p hp => ?_⟩
        exact k _ _ μ3 (.lst (cutD l o o')) (.ref p) (E.trans (ext_newF hd3 hp)) (hd3.newF hp) ⟨p, _, rfl, ⟨.inr rfl, upd_same⟩, (cut_rep h2).ext (ext_newF hd3 hp)⟩ t3
      · exact t3.elim⟩⟩⟩
end
end DL

set_option Elab.async false
set_option linter.all false
set_option maxRecDepth 100000
namespace DL
open PySem L2 PySem.Spec PyProof.Rows

/-! ### targets: the slots that they store -/
structure Agr (ws : List Nat) (σ σ' : L2.St) : Prop where
  len : σ'.length = σ.length
  at_ : ∀ (i : Nat), i ∉ ws → σ'[i]? = σ[i]?
theorem Agr.refl (ws : List Nat) (σ : L2.St) : Agr ws σ σ := ⟨rfl, fun _ _ => rfl⟩
theorem Agr.trans {ws : List Nat} {a b c : L2.St} (h : Agr ws a b) (k : Agr ws b c) : Agr ws a c := ⟨k.len.trans h.len, fun i hi => (k.at_ i hi).trans (h.at_ i hi)⟩
theorem Agr.mono {ws vs : List Nat} {a b : L2.St} (h : Agr ws a b) (k : ∀ i ∈ ws, i ∈ vs) : Agr vs a b := ⟨h.len, fun i hi => h.at_ i fun z => hi (k i z)⟩
theorem Agr.set (σ : L2.St) (i : Nat) (v : Option V) : Agr [i] σ (σ.set i v) := ⟨List.length_set .., fun j hj => List.getElem?_set_ne (by simpa using Ne.symm (show ¬ j = i by simpa using hj))⟩
theorem wipe_get {σ : L2.St} {i : Nat} : ∀ {vs : List Nat}, i ∈ vs → i < σ.length → (wipe σ vs)[i]? = some none
  | v :: vs, h, hl => by
    unfold wipe
    by_cases e : v = i
    · subst e; rw [List.getElem?_set_self (by rw [wipe_length]; exact hl)]
    · rw [List.getElem?_set_ne e]
      rcases List.mem_cons.mp h with z | z
      · exact absurd z.symm e
      · exact wipe_get z hl
theorem wipe_notin {σ : L2.St} {i : Nat} : ∀ {vs : List Nat}, i ∉ vs → (wipe σ vs)[i]? = σ[i]?
  | [], _ => rfl
  | v :: vs, h => by
    have h : ¬ i = v ∧ i ∉ vs := by simpa using h
    unfold wipe
    rw [List.getElem?_set_ne fun z => h.1 z.symm]
    exact wipe_notin h.2
theorem wipe_agr {σ σ' : L2.St} {vs : List Nat} (h : Agr vs σ σ') : wipe σ' vs = wipe σ vs := by
  apply List.ext_getElem?
  intro i
  by_cases hi : i ∈ vs
  · by_cases hl : i < σ.length
    · rw [wipe_get hi hl, wipe_get hi (by rw [h.len]; exact hl)]
    · rw [List.getElem?_eq_none (by rw [wipe_length, h.len]; omega), List.getElem?_eq_none (by rw [wipe_length]; omega)]
  · rw [wipe_notin hi, wipe_notin hi, h.at_ i hi]
theorem wipe_wipe (σ : L2.St) (vs : List Nat) : wipe (wipe σ vs) vs = wipe σ vs := wipe_agr ⟨wipe_length σ vs, fun _ hi => wipe_notin hi⟩
def wipeD (δ : DS) : List Nat → DS
  | [] => δ
  | v :: vs => (wipeD δ vs).set v none
theorem RepS.wipe {K : PySem.W.Frag} {F : Zo} {H : Hp} {δ : DS} {σ : L2.St} (h : RepS K F H δ σ) : ∀ vs : List Nat, RepS K F H (wipeD δ vs) (wipe σ vs)
  | [] => h
  | v :: vs => by
    have ih := RepS.wipe h vs
    unfold wipeD L2.wipe
    refine ⟨by rw [List.length_set, List.length_set, ih.len], fun i d e => ?_⟩
    by_cases z : v = i
    · subst z
      by_cases hl : v < (wipeD δ vs).length
      · rw [List.getElem?_set_self hl] at e; cases e
      · rw [List.getElem?_eq_none (by rw [List.length_set]; omega)] at e; cases e
    · rw [List.getElem?_set_ne z] at e ⊢
      exact ih.at_ i d e

def LGw (K : PySem.W.Frag) (O : Org) (ws : List Nat) (t : DTG) : TG := fun v σ H Q => ∃ F d δ μ q, Hd K O F H μ ∧ RepS K F H δ σ ∧ Rep K F H d v ∧ t d δ μ q ∧ ∀ F' H' μ' δ' σ', Ext F H F' H' → Hd K O F' H' μ' → RepS K F' H' δ' σ' → Agr ws σ σ' → q δ' μ' → Q σ' H'
def LGsw (K : PySem.W.Frag) (O : Org) (ws : List Nat) (t : DTGs) : TGs := fun vs σ H Q => ∃ F ds δ μ q, Hd K O F H μ ∧ RepS K F H δ σ ∧ RepL K F H ds vs ∧ t ds δ μ q ∧ ∀ F' H' μ' δ' σ', Ext F H F' H' → Hd K O F' H' μ' → RepS K F' H' δ' σ' → Agr ws σ σ' → q δ' μ' → Q σ' H'
abbrev DGw (O : Org) (X : Cx) (e : Expr) (ws : List Nat) (t : DTG) : Prop := PG X e (LGw X.K O ws t)
abbrev DGsw (O : Org) (X : Cx) (es : List Expr) (ws : List Nat) (t : DTGs) : Prop := PGs X es (LGsw X.K O ws t)
def dgName (i : Nat) : DTG := fun d δ μ q => q (δ.set i (some d)) μ
def dgNil : DTGs := fun ds δ μ q => match ds with | [] => q δ μ | _ => False
def dgCons (t : DTG) (u : DTGs) : DTGs := fun ds δ μ q => match ds with | d :: r => t d δ μ fun δ' μ' => u r δ' μ' q | [] => False
def dgTup (n : Nat) (t : DTGs) : DTG := fun d δ μ q => match d with
  | .tup l => l.length = n ∧ t l δ μ q
  | d => match lstOf μ d with | some l => l.length = n ∧ t l δ μ q | none => False
/-- o[i] = .. of a list that is written, of a dict -/
def dgItem (to ti : DTE) : DTG := fun d δ μ q => to δ μ fun o μ1 => ti δ μ1 fun i μ2 => match o, i with
  | .adr p, .int k => ∃ l j, μ2 p = some (.lst l) ∧ ixN l.length k = some j ∧ q δ (updM μ2 p (.lst (l.set j d)))
  | _, _ => False
section
variable {O : Org} {X : Cx} {pos : Pos} {e : Expr} {es : List Expr} {ws us : List Nat} {t : DTG} {u : DTGs}
theorem dg_name {i : Nat} {x : Str} (hN : X.N.Nodup) (hi : X.N[i]? = some x) (hx : Loc X.env.scope x) (hf : X.fn x = true ∨ X.env.scope.names.lookup x = some .local := by first | exact .inl rfl | exact .inr rfl | assumption) : DGw O X (.Name x pos) [i] (dgName i) :=
  pg_weak (pg_name hN hi hx hf) fun v σ H Q ⟨F, d, δ, μ, q, hd, rs, r, t, k⟩ => k F H μ _ _ (Ext.refl F H) hd (rs.set r) (Agr.set σ i _) t
theorem dgs_nil : DGsw O X [] [] dgNil := pgs_weak pgs_nil fun vs σ H Q ⟨F, ds, δ, μ, q, hd, rs, r, t, k⟩ => by
  cases ds with
  | nil =>
    obtain rfl : vs = [] := r
    exact ⟨rfl, k F H μ δ σ (Ext.refl F H) hd rs (Agr.refl _ _) t⟩
  | cons _ _ => exact t.elim
theorem dgs_cons (h1 : DGw O X e ws t) (h2 : DGsw O X es us u) (hs : (assignEach (e :: es) X.env).map (·.2) = assign e X.env :: (assignEach es X.env).map (·.2) := by rfl) : DGsw O X (e :: es) (ws ++ us) (dgCons t u) :=
  pgs_weak (pgs_cons h1 h2 hs) fun vs σ H Q ⟨F, ds, δ, μ, q, hd, rs, r, t, k⟩ => by
  cases ds with
  | nil => exact t.elim
  | cons d ds =>
    obtain ⟨v, vr, rfl, r1, r2⟩ := r
    refine ⟨v, vr, rfl, F, d, δ, μ, _, hd, rs, r1, t, fun F1 H1 μ1 δ1 σ1 e1 hd1 rs1 a1 t1 => ?_⟩
    exact ⟨F1, ds, δ1, μ1, q, hd1, rs1, r2.ext e1, t1, fun F2 H2 μ2 δ2 σ2 e2 hd2 rs2 a2 t2 =>
      k F2 H2 μ2 δ2 σ2 (e1.trans e2) hd2 rs2 ((a1.mono fun i hi => List.mem_append_left _ hi).trans (a2.mono fun i hi => List.mem_append_right _ hi)) t2⟩
theorem pg_or {t1 t2 : TG} (h1 : PG X e t1) (h2 : PG X e t2) : PG X e (fun v σ H Q => t1 v σ H Q ∨ t2 v σ H Q) := ⟨fun pins s σ H v u Q I r q => q.elim (h1.run pins s σ H v u Q I r) (h2.run pins s σ H v u Q I r)⟩
theorem dg_tup {n : Nat} {k0 : Nat} (hc : X.calm = true) (h : DGsw O X es us u) (hn : (assignEach es X.env).length = n := by rfl) (hst : (assignEach es X.env).findIdx? (·.1) = none := by rfl) : DGw O X (.Tuple es k0 pos) us (dgTup n u) :=
  pg_weak (pg_or (pg_tup hc h hn hst) (pg_unl hc h hn hst)) fun v σ H Q ⟨F, d, δ, μ, q, hd, rs, r, t, k⟩ => by
    unfold dgTup at t
    split at t
    · rename_i l
      obtain ⟨a, vs, rfl, h1, h2⟩ := r
      exact .inl ⟨a, vs, rfl, h1.sq, by rw [← h2.length]; exact t.1, F, l, δ, μ, q, hd, rs, h2, t.2, k⟩
    · split at t
      · rename_i l e0
        obtain ⟨a, vs, rfl, h1, h2⟩ := list_sq hd r e0
        exact .inr ⟨a, vs, rfl, h1, by rw [← h2.length]; exact t.1, F, l, δ, μ, q, hd, rs, h2, t.2, k⟩
      · exact t.elim
theorem dg_item {o i : Expr} {to ti : DTE} (ho : DE O X o to) (hi : DE O X i ti)
    (ha : ∀ v, assign (.Subscript o i pos) X.env v = (do
      let ov ← holding [v] (eval o X.env)
      let iv ← holding [v, ov] (eval i X.env)
      standAt pos
      holding [v, ov, iv] (setItem ov iv v)
      release [v, ov, iv] []) := by intro _; rfl) : DGw O X (.Subscript o i pos) [] (dgItem to ti) :=
  pg_weak (pg_sub ho hi set_list ha) fun v σ H Q ⟨F, d, δ, μ, q, hd, rs, r, t, k⟩ =>
    ⟨F, δ, μ, _, hd, rs, t, fun F1 H1 μ1 o vo e1 hd1 r1 t1 => ⟨F1, δ, μ1, _, hd1, rs.ext e1, t1, fun F2 H2 μ2 i vi e2 hd2 r2 t2 => by
      have r1 := r1.ext e2
      match o, i, t2, r1, r2 with
      | .adr p, .int kk, t2, r1, r2 =>
      obtain rfl : vo = .ref p := r1
      obtain rfl : vi = .int kk := r2
      obtain ⟨l, j, hm, hj, t2⟩ := t2
      obtain ⟨_, vs, h1, h2⟩ := hd2.own p _ hm
      refine ⟨p, vs, kk, j, rfl, rfl, h1, by rw [← h2.length]; exact hj, ?_⟩
      have ex := ext_set (o := HO.lst (vs.set j v)) hd2 hm
      exact k F2 _ _ δ σ ((e1.trans e2).trans ex) (hd2.set (m' := .lst (l.set j d)) hm ⟨_, upd_same, (h2.ext ex).set j (((r.ext e1).ext e2).ext ex)⟩) (((rs.ext e1).ext e2).ext ex) (Agr.refl _ _) t2⟩⟩
end

/-! ### statements -/
section
variable {O : Org} {X : Cx} {st : Stmt} {rest : List Stmt} {t u : DTS} {e : Expr} {te : DTE} {pos : Pos}
def dNext : DTS := fun E δ μ => E.nx δ μ
def dSeq (t u : DTS) : DTS := fun E δ μ => t { E with nx := u E } δ μ
theorem dss_nil : DSs O X [] dNext := pss_weak pss_nil fun Z σ H ⟨F, δ, μ, E, hd, rs, t, L⟩ => L.nx F H μ δ σ (Ext.refl F H) hd rs t
theorem lseq {K : PySem.W.Frag} : ∀ Z σ H, LS K O (dSeq t u) Z σ H → tSeq (LS K O t) (LS K O u) Z σ H := fun Z σ H ⟨F, δ, μ, E, hd, rs, t, L⟩ =>
  ⟨F, δ, μ, _, hd, rs, t, ⟨fun F' H' μ' δ' σ' e1 hd1 rs1 t1 => ⟨F', δ', μ', E, hd1, rs1, t1, L.ext e1⟩, L.rt, L.bk, L.ct⟩⟩
theorem dss_cons (h1 : DSt O X st t) (h2 : DSs O X rest u) : DSs O X (st :: rest) (dSeq t u) := pss_weak (pss_cons h1 h2) lseq
theorem dss_one (h1 : DSt O X st t) : DSs O X [st] t := pss_one h1
theorem ds_pass : DSt O X (.Pass pos) dNext := ps_weak ps_pass fun Z σ H ⟨F, δ, μ, E, hd, rs, t, L⟩ => L.nx F H μ δ σ (Ext.refl F H) hd rs t
def dBreak : DTS := fun E δ μ => E.bk δ μ
def dCont : DTS := fun E δ μ => E.ct δ μ
theorem ds_break : DSt O X (.Break pos) dBreak := ps_weak ps_break fun Z σ H ⟨F, δ, μ, E, hd, rs, t, L⟩ => L.bk F H μ δ σ (Ext.refl F H) hd rs t
theorem ds_continue : DSt O X (.Continue pos) dCont := ps_weak ps_continue fun Z σ H ⟨F, δ, μ, E, hd, rs, t, L⟩ => L.ct F H μ δ σ (Ext.refl F H) hd rs t
def dDrop (te : DTE) : DTS := fun E δ μ => te δ μ fun _ μ1 => E.nx δ μ1
theorem ds_expr (he : DE O X e te) (hs : swapsWith e none pos.line X.env = pure false := by rfl) : DSt O X (.Expr e pos) (dDrop te) := ps_weak (ps_expr he hs) fun Z σ H ⟨F, δ, μ, E, hd, rs, t, L⟩ =>
  ⟨F, δ, μ, _, hd, rs, t, fun F1 H1 μ1 d v e1 hd1 r1 t1 => L.nx F1 H1 μ1 δ σ e1 hd1 (rs.ext e1) t1⟩
def dRet (te : DTE) : DTS := fun E δ μ => te δ μ E.rt
theorem ds_ret (he : DE O X e te) : DSt O X (.Return (some e) pos) (dRet te) := ps_weak (ps_ret he) fun Z σ H ⟨F, δ, μ, E, hd, rs, t, L⟩ =>
  ⟨F, δ, μ, _, hd, rs, t, fun F1 H1 μ1 d v e1 hd1 r1 t1 => L.rt F1 H1 μ1 d v e1 hd1 r1 t1⟩
def dRetN : DTS := fun E _ μ => E.rt .non μ
theorem ds_retN : DSt O X (.Return none pos) dRetN := ps_weak ps_retN fun Z σ H ⟨F, δ, μ, E, hd, rs, t, L⟩ => L.rt F H μ .non .non (Ext.refl F H) hd rfl t
def dIfS (c : DTT) (t u : DTS) : DTS := fun E δ μ => c δ μ fun b μ1 => if b = true then t E δ μ1 else u E δ μ1
theorem ds_if {c : Expr} {a b : List Stmt} {tc : DTT} (hc : DT O X c tc) (ha : DSs O X a t) (hb : DSs O X b u) : DSt O X (.If c a b pos) (dIfS tc t u) := ps_weak (ps_if hc ha hb) fun Z σ H ⟨F, δ, μ, E, hd, rs, t, L⟩ =>
  ⟨F, δ, μ, _, hd, rs, t, fun F1 H1 μ1 b e1 hd1 t1 => by
    cases b with
    | true =>
      rw [if_pos rfl] at t1 ⊢
      exact ⟨F1, δ, μ1, E, hd1, rs.ext e1, t1, L.ext e1⟩
    | false =>
      rw [if_neg Bool.false_ne_true] at t1 ⊢
      exact ⟨F1, δ, μ1, E, hd1, rs.ext e1, t1, L.ext e1⟩⟩
def dAsg (te : DTE) (g : DTG) : DTS := fun E δ μ => te δ μ fun d μ1 => g d δ μ1 E.nx
theorem ds_asg {tg e : Expr} {te : DTE} {g : DTG} {ws : List Nat} (he : DE O X e te) (hg : DGw O X tg ws g) (hs : swapsWithSole [tg] e pos.line X.env = pure false := by rfl) (hw : swappedStores [tg] e X.env = pure none := by rfl)
    (h1 : (assignEach [tg] X.env).map (·.2) = [assign tg X.env] := by rfl) : DSt O X (.Assign [tg] e pos) (dAsg te g) := ps_weak (ps_asg he hg hs hw h1) fun Z σ H ⟨F, δ, μ, E, hd, rs, t, L⟩ =>
  ⟨F, δ, μ, _, hd, rs, t, fun F1 H1 μ1 d v e1 hd1 r1 t1 => ⟨F1, d, δ, μ1, _, hd1, rs.ext e1, r1, t1, fun F2 H2 μ2 δ2 σ2 e2 hd2 rs2 _ t2 => L.nx F2 H2 μ2 δ2 σ2 (e1.trans e2) hd2 rs2 t2⟩⟩
/-- a, b = x, y -/
def dPar (i j : Nat) (ta : DTA) : DTS := fun E δ μ => ta δ μ fun ds μ1 => match ds with | [d, e] => E.nx ((δ.set i (some d)).set j (some e)) μ1 | _ => False
theorem repL2 {K : PySem.W.Frag} {F : Zo} {H : Hp} {d e : D} {vs : List V} (r : RepL K F H [d, e] vs) : ∃ v w, vs = [v, w] ∧ Rep K F H d v ∧ Rep K F H e w := by
  obtain ⟨v, r1, rfl, h1, w, r2, rfl, h2, h3⟩ := r
  have h3 : r2 = [] := h3
  subst h3
  exact ⟨v, w, rfl, h1, h2⟩
theorem ds_par {i j : Nat} {x y : Str} {a b : Expr} {ta : DTA} {px py pt : Pos} {kt k2 pt2} (hc : X.calm = true) (hN : X.N.Nodup) (hi : X.N[i]? = some x) (hj : X.N[j]? = some y) (hij : i ≠ j)
    (hx : X.env.scope.names.lookup x = some .local) (hy : X.env.scope.names.lookup y = some .local) (ha : DA O X [a, b] ta)
    (hw : swappedStores [.Tuple [.Name x px, .Name y py] kt pt] (.Tuple [a, b] k2 pt2) X.env = pure (some [x, y]) := by rfl)
    (hs : swapsWithSole [.Tuple [.Name x px, .Name y py] kt pt] (.Tuple [a, b] k2 pt2) pos.line X.env = pure false := by rfl) :
    DSt O X (.Assign [.Tuple [.Name x px, .Name y py] kt pt] (.Tuple [a, b] k2 pt2) pos) (dPar i j ta) := ps_weak (ps_par hc hN hi hj hij hx hy ha hw hs) fun Z σ H ⟨F, δ, μ, E, hd, rs, t, L⟩ =>
  ⟨F, δ, μ, _, hd, rs, t, fun F1 H1 μ1 ds vs e1 hd1 r1 t1 => by
    match ds, t1 with
    | [d, e], t1 =>
      obtain ⟨v, w, rfl, h1, h2⟩ := repL2 r1
      exact ⟨v, w, rfl, L.nx F1 H1 μ1 _ _ e1 hd1 (((rs.ext e1).set h1).set h2) t1⟩⟩
def dPar3 (i j l : Nat) (ta : DTA) : DTS := fun E δ μ => ta δ μ fun ds μ1 => match ds with | [d, e, f] => E.nx (((δ.set i (some d)).set j (some e)).set l (some f)) μ1 | _ => False
theorem ds_par3 {i j l : Nat} {x y z : Str} {a b c : Expr} {ta : DTA} {px py pz pt : Pos} {kt k2 pt2} (hc : X.calm = true) (hN : X.N.Nodup) (hi : X.N[i]? = some x) (hj : X.N[j]? = some y) (hl : X.N[l]? = some z) (hij : i ≠ j) (hil : i ≠ l) (hjl : j ≠ l)
    (hx : X.env.scope.names.lookup x = some .local) (hy : X.env.scope.names.lookup y = some .local) (hz : X.env.scope.names.lookup z = some .local) (ha : DA O X [a, b, c] ta)
    (hw : swappedStores [.Tuple [.Name x px, .Name y py, .Name z pz] kt pt] (.Tuple [a, b, c] k2 pt2) X.env = pure (some [x, y, z]) := by rfl)
    (hs : swapsWithSole [.Tuple [.Name x px, .Name y py, .Name z pz] kt pt] (.Tuple [a, b, c] k2 pt2) pos.line X.env = pure false := by rfl) :
    DSt O X (.Assign [.Tuple [.Name x px, .Name y py, .Name z pz] kt pt] (.Tuple [a, b, c] k2 pt2) pos) (dPar3 i j l ta) := ps_weak (ps_par3 hc hN hi hj hl hij hil hjl hx hy hz ha hw hs) fun Z σ H ⟨F, δ, μ, E, hd, rs, t, L⟩ =>
  ⟨F, δ, μ, _, hd, rs, t, fun F1 H1 μ1 ds vs e1 hd1 r1 t1 => by
    match ds, t1 with
    | [d, e, f], t1 =>
      obtain ⟨v, r', rfl, h1, r2⟩ := r1
      obtain ⟨w, w2, rfl, h2, h3⟩ := repL2 r2
      exact ⟨v, w, w2, rfl, L.nx F1 H1 μ1 _ _ e1 hd1 ((((rs.ext e1).set h1).set h2).set h3) t1⟩⟩
/-- x += e -/
def dAug (i : Nat) (te : DTE) (f : Int → Int → Int) : DTS := fun E δ μ => match δ[i]? with
  | some (some (.int x)) => te δ μ fun d μ1 => match d with | .int y => E.nx (δ.set i (some (.int (f x y)))) μ1 | _ => False
  | _ => False
theorem ds_aug {i : Nat} {x : Str} {op : Operator} {f : Int → Int → Int} {pos' : Pos} (hN : X.N.Nodup) (hi : X.N[i]? = some x) (hx : Loc X.env.scope x) (he : DE O X e te) (ho : PIp X op (ipI f)) (hf : X.fn x = true ∨ X.env.scope.names.lookup x = some .local := by first | exact .inl rfl | exact .inr rfl | assumption) :
    DSt O X (.AugAssign (.Name x pos') op e pos) (dAug i te f) := ps_weak (ps_aug hN hi hx he ho hf) fun Z σ H ⟨F, δ, μ, E, hd, rs, t, L⟩ => by
  unfold dAug at t
  split at t
  · rename_i x0 hx0
    obtain ⟨v, h1, h2⟩ := rs.at_ i _ hx0
    obtain rfl : v = .int x0 := h2
    refine ⟨_, h1, F, δ, μ, _, hd, rs, t, fun F1 H1 μ1 d v e1 hd1 r1 t1 => ?_⟩
    cases d <;> first | exact False.elim t1 | skip
    rename_i y
    obtain rfl : v = .int y := r1
    exact ⟨x0, y, rfl, rfl, L.nx F1 H1 μ1 _ _ e1 hd1 ((rs.ext e1).set (d := .int (f x0 y)) rfl) t1⟩
  · exact t.elim
end
end DL

set_option Elab.async false
set_option linter.all false
set_option maxRecDepth 100000
namespace DL
open PySem L2 PySem.Spec PyProof.Rows

/-! ### what is walked: a list of data, told ahead; keep: what must stay so through the walk -/
structure ItOk (K : PySem.W.Frag) (O : Org) (F1 : Zo) (H1 : Hp) (items : List D) (keep : Mu → Prop) (J : It) : Prop where
  go : ∀ i F2 H2 μ2, Ext F1 H1 F2 H2 → Hd K O F2 H2 μ2 → keep μ2 → i < items.length → J.go i H2
  yld : ∀ i F2 H2 μ2 x H3, Ext F1 H1 F2 H2 → Hd K O F2 H2 μ2 → keep μ2 → i < items.length → J.yld i H2 x H3 → ∃ F3 d, Ext F2 H2 F3 H3 ∧ Hd K O F3 H3 μ2 ∧ items[i]? = some d ∧ Rep K F3 H3 d x
  stop : ∀ i F2 H2 μ2, Ext F1 H1 F2 H2 → Hd K O F2 H2 μ2 → keep μ2 → items.length ≤ i → J.stop i H2
abbrev DTI := DS → Mu → (List D → (Mu → Prop) → Mu → Prop) → Prop
def LI (K : PySem.W.Frag) (O : Org) (t : DTI) : TI := fun σ H R => ∃ F δ μ q, Hd K O F H μ ∧ RepS K F H δ σ ∧ t δ μ q ∧ ∀ F' H' μ' items keep J, Ext F H F' H' → Hd K O F' H' μ' → ItOk K O F' H' items keep J → q items keep μ' → R J H'
abbrev DI (O : Org) (X : Cx) (tg iter : Expr) (t : DTI) : Prop := PI X tg iter (LI X.K O t)
theorem pi_weak {X : Cx} {tg e : Expr} {t t' : TI} (h : PI X tg e t) (w : ∀ σ H R, t' σ H R → t σ H R) : PI X tg e t' := ⟨fun pins s σ H R I q => h.run pins s σ H R I (w σ H R q)⟩
theorem pi_or {X : Cx} {tg e : Expr} {t1 t2 : TI} (h1 : PI X tg e t1) (h2 : PI X tg e t2) : PI X tg e (fun σ H R => t1 σ H R ∨ t2 σ H R) := ⟨fun pins s σ H R I q => q.elim (h1.run pins s σ H R I) (h2.run pins s σ H R I)⟩

def intsD (lo : Int) : Nat → List D
  | n => (List.range n).map fun i => D.int (lo + (i : Nat))
section
variable {O : Org} {K : PySem.W.Frag} {F : Zo} {H : Hp} {μ : Mu}
theorem itok_range (lo : Int) (n : Nat) : ItOk K O F H (intsD lo n) (fun _ => True) (Itr lo n) := by
  have hl : (intsD lo n).length = n := by simp [intsD]
  refine ⟨fun i F2 H2 μ2 _ _ _ h => by rw [hl] at h; exact h, fun i F2 H2 μ2 x H3 e hd _ h ⟨h1, h2⟩ => ?_, fun i F2 H2 μ2 _ _ _ h => by rw [hl] at h; exact h⟩
  subst h1 h2
  rw [hl] at h
  exact ⟨F2, .int (lo + i), Ext.refl _ _, hd, by simp [intsD, h], rfl⟩
theorem sq_ext {F2 : Zo} {H2 : Hp} {a : Addr} {vs : List V} (e : Ext F H F2 H2) (h : FzR K F H a vs) : SqL K H2 a vs := (h.ext e).sq
theorem list_uniq {a : Addr} {xs vs : List V} (h : SqL K H a xs) (k : SqL K H a vs) (one : ∀ ys, SqL K H a ys → ys = vs) : xs = vs := one xs h
/-- a list that is read off at each turn -/
theorem itok_list {items : List D} {keep : Mu → Prop} {a : Addr} {vs : List V} (hr : RepL K F H items vs)
    (st : ∀ F2 H2 μ2, Ext F H F2 H2 → Hd K O F2 H2 μ2 → keep μ2 → SqL K H2 a vs ∨ ∃ ws, SqL K H2 a ws ∧ RepL K F2 H2 items ws) : ItOk K O F H items keep (Itl K a) := by
  have q : ∀ F2 H2 μ2, Ext F H F2 H2 → Hd K O F2 H2 μ2 → keep μ2 → ∃ ws, SqL K H2 a ws ∧ RepL K F2 H2 items ws := fun F2 H2 μ2 e hd k => by
    rcases st F2 H2 μ2 e hd k with h | h
    · exact ⟨vs, h, hr.ext e⟩
    · exact h
  refine ⟨fun i F2 H2 μ2 e hd k h => ?_, fun i F2 H2 μ2 x H3 e hd k h ⟨h1, h2⟩ => ?_, fun i F2 H2 μ2 e hd k h => ?_⟩
  · obtain ⟨ws, h1, h2⟩ := q F2 H2 μ2 e hd k
    have hl : i < ws.length := by rw [← h2.length]; exact h
    exact ⟨ws, ws[i], h1, by simp [hl]⟩
  · subst h1
    obtain ⟨ws, h1, hw⟩ := q F2 _ μ2 e hd k
    obtain ⟨d, e1, e2⟩ := hw.get' (h2 ws h1)
    exact ⟨F2, d, Ext.refl _ _, hd, e1, e2⟩
  · obtain ⟨ws, h1, h2⟩ := q F2 H2 μ2 e hd k
    exact ⟨ws, h1, by rw [← h2.length]; exact h⟩
theorem itok_tup {items : List D} {a : Addr} {vs : List V} (hr : RepL K F H items vs) (hz : FzT K F H a vs) : ItOk K O F H items (fun _ => True) (Itt K a) := by
  refine ⟨fun i F2 H2 μ2 e hd k h => ?_, fun i F2 H2 μ2 x H3 e hd k h ⟨h1, h2⟩ => ?_, fun i F2 H2 μ2 e hd k h => ?_⟩
  · have hl : i < vs.length := by rw [← hr.length]; exact h
    exact ⟨vs, vs[i], (hz.ext e).sq, by simp [hl]⟩
  · subst h1
    obtain ⟨d, e1, e2⟩ := (hr.ext e).get' (h2 vs (hz.ext e).sq)
    exact ⟨F2, d, Ext.refl _ _, hd, e1, e2⟩
  · exact ⟨vs, (hz.ext e).sq, by rw [← hr.length]; exact h⟩
end
/-- a list, a tuple -/
def diSeq (te : DTE) : DTI := fun δ μ q => te δ μ fun d μ1 => match d with
  | .tup l => q l (fun _ => True) μ1
  | .lst l => q l (fun _ => True) μ1
  | .rol l => q l (fun _ => True) μ1
  | .adr p => ∃ l, μ1 p = some (.lst l) ∧ q l (fun μ => μ p = some (.lst l)) μ1
  | _ => False
def diRng1 (ta : DTA) : DTI := fun δ μ q => ta δ μ fun ds μ1 => match ds with | [.int j] => (-(2 ^ 62) ≤ j ∧ j < 2 ^ 62) ∧ q (intsD 0 j.toNat) (fun _ => True) μ1 | _ => False
def diRng2 (ta : DTA) : DTI := fun δ μ q => ta δ μ fun ds μ1 => match ds with | [.int i, .int j] => (-(2 ^ 62) ≤ i ∧ i < 2 ^ 62 ∧ -(2 ^ 62) ≤ j ∧ j < 2 ^ 62) ∧ q (intsD i (j - i).toNat) (fun _ => True) μ1 | _ => False
/-- a list or a tuple, told behind its evaluation -/
def iSeq (K : PySem.W.Frag) (tl : TE) : TI := fun σ H R => tl σ H fun x H1 => ∃ a, x = .ref a ∧ (((∃ xs, SqL K H1 a xs) ∧ R (Itl K a) H1) ∨ ((∃ xs, SqT K H1 a xs) ∧ R (Itt K a) H1))
theorem pi_seq {X : Cx} {tg l : Expr} {tl : TE} (hl : PE X l tl) : PI X tg l (iSeq X.K tl) := by
  constructor
  intro pins s σ H R I h
  refine thn (hl.run pins s σ H _ I h) ?_
  rintro v s1 ⟨x, H1, I1, r1, a, e, hq⟩
  subst e
  cases r1
  have new := I1.hok.fresh (Nat.le_refl s1.heap.objs.size)
  have fp : ∀ b ∈ [s1.heap.objs.size], FpOk X pins H1 b := by
    intro b hb
    rw [List.mem_singleton.mp hb]
    exact I1.fpOk (Nat.le_refl _) new
  rcases hq with ⟨⟨xs, hx⟩, q⟩ | ⟨⟨xs, hx⟩, q⟩
  · obtain ⟨its, _, pl, _⟩ := I1.list hx
    refine wpAny_pyIter_list pl.isList ?_
    exact ⟨s1.heap.objs.size, [s1.heap.objs.size], _, Itl X.K a, H1, rfl, I1.kept (t' := s1.toks) (fun _ _ z => Heap.get?_push_of_some _ z), turn_list a _, ⟨_, Heap.get?_push_size _ rfl, rfl, rfl⟩, fp, q⟩
  · obtain ⟨its, _, pl, _⟩ := I1.tuple hx
    refine wpAny_pyIter_tuple (items := its.toArray) pl ?_
    exact ⟨s1.heap.objs.size, [s1.heap.objs.size], _, Itt X.K a, H1, rfl, I1.kept (t' := s1.toks) (fun _ _ z => Heap.get?_push_of_some _ z), turn_tuple a _, ⟨_, Heap.get?_push_size _ rfl, rfl, rfl⟩, fp, q⟩
section
variable {O : Org} {X : Cx} {tg e a b : Expr} {te : DTE} {ta : DTA} {pos p : Pos}
theorem di_seq (he : DE O X e te) : DI O X tg e (diSeq te) := pi_weak (pi_seq he) fun σ H R ⟨F, δ, μ, q, hd, rs, t, k⟩ =>
  ⟨F, δ, μ, _, hd, rs, t, fun F1 H1 μ1 d v e1 hd1 r1 t1 => by
    cases d <;> first | exact False.elim t1 | skip
    · rename_i p
      obtain rfl : v = .ref p := r1
      obtain ⟨l, hm, t1⟩ := t1
      obtain ⟨_, vs, h1, h2⟩ := hd1.own p _ hm
      refine ⟨p, rfl, .inl ⟨⟨vs, SqL.of h1⟩, k F1 H1 μ1 l _ _ e1 hd1 (itok_list h2 fun F2 H2 μ2 e2 hd2 k2 => ?_) t1⟩⟩
      obtain ⟨_, ws, h3, h4⟩ := hd2.own p _ k2
      exact .inr ⟨ws, SqL.of h3, h4⟩
    · obtain ⟨a, vs, rfl, h1, h2⟩ := r1
      exact ⟨a, rfl, .inr ⟨⟨vs, h1.sq⟩, k F1 H1 μ1 _ _ _ e1 hd1 (itok_tup h2 h1) t1⟩⟩
    · obtain ⟨a, vs, rfl, h1, h2⟩ := r1
      exact ⟨a, rfl, .inl ⟨⟨vs, SqL.of h1.2⟩, k F1 H1 μ1 _ _ _ e1 hd1 (itok_list h2 fun F2 H2 μ2 e2 hd2 k2 => .inl (SqL.of ((e2.hf h1.1).trans h1.2))) t1⟩⟩
    · obtain ⟨a, vs, rfl, h1, h2⟩ := r1
      exact ⟨a, rfl, .inl ⟨⟨vs, h1.sq⟩, k F1 H1 μ1 _ _ _ e1 hd1 (itok_list h2 fun F2 H2 μ2 e2 hd2 k2 => .inl (h1.ext e2).sq) t1⟩⟩⟩
theorem di_range1 (hg : Gl X "range") (hm : X.mg "range" = none) (ha : DA O X [a] ta) (hs : starEach [a] X.env = [(false, eval a X.env)] := by rfl) : DI O X tg (.Call (.Name "range" p) [a] [] pos) (diRng1 ta) :=
  pi_weak (pi_range1 hg hm ha hs) fun σ H R ⟨F, δ, μ, q, hd, rs, t, k⟩ => ⟨F, δ, μ, _, hd, rs, t, fun F1 H1 μ1 ds vs e1 hd1 r1 t1 => by
    match ds, t1 with
    | [.int j], t1 =>
      obtain ⟨v, r', rfl, h1, h2⟩ := r1
      obtain rfl : v = .int j := h1
      obtain rfl : r' = [] := h2
      exact ⟨j, rfl, t1.1.1, t1.1.2, k F1 H1 μ1 _ _ _ e1 hd1 (itok_range 0 j.toNat) t1.2⟩⟩
theorem di_range2 (hg : Gl X "range") (hm : X.mg "range" = none) (ha : DA O X [a, b] ta) (hs : starEach [a, b] X.env = [(false, eval a X.env), (false, eval b X.env)] := by rfl) (hs2 : starEach [b] X.env = [(false, eval b X.env)] := by rfl) :
    DI O X tg (.Call (.Name "range" p) [a, b] [] pos) (diRng2 ta) :=
  pi_weak (pi_range2 hg hm ha hs hs2) fun σ H R ⟨F, δ, μ, q, hd, rs, t, k⟩ => ⟨F, δ, μ, _, hd, rs, t, fun F1 H1 μ1 ds vs e1 hd1 r1 t1 => by
    match ds, t1 with
    | [.int i, .int j], t1 =>
      obtain ⟨v, w, rfl, h1, h2⟩ := repL2 r1
      obtain rfl : v = .int i := h1
      obtain rfl : w = .int j := h2
      exact ⟨i, j, rfl, t1.1, k F1 H1 μ1 _ _ _ e1 hd1 (itok_range i (j - i).toNat) t1.2⟩⟩
end

/-! ### for, while -/
def dFor (ti : DTI) (g : DTG) (tb : DTS) : DTS := fun E δ μ => ti δ μ fun items keep μ1 => ∃ P : Nat → DS → Mu → Prop, P 0 δ μ1 ∧ (∀ i δ μ, i ≤ items.length → P i δ μ → keep μ) ∧
  (∀ i d δ μ, items[i]? = some d → P i δ μ → g d δ μ fun δ2 μ2 => tb { E with nx := P (i + 1), ct := P (i + 1), bk := E.nx } δ2 μ2) ∧ ∀ δ μ, P items.length δ μ → E.nx δ μ
def dWhile (c : DTT) (tb : DTS) : DTS := fun E δ μ => ∃ P : Nat → DS → Mu → Prop, (∃ m, P m δ μ) ∧ ∀ m δ μ, P m δ μ →
  c δ μ fun b μ1 => if b = true then tb { E with nx := fun δ' μ' => ∃ m', m' < m ∧ P m' δ' μ', ct := fun δ' μ' => ∃ m', m' < m ∧ P m' δ' μ', bk := E.nx } δ μ1 else E.nx δ μ1
section
variable {O : Org} {X : Cx} {tg iter c : Expr} {ti : DTI} {g : DTG} {tb : DTS} {ws : List Nat} {body : List Stmt} {pos : Pos} {tc : DTT}
theorem ds_for (hp : PassesOwn (model X.prog X.w) X.A X.env X.xe) (hc : X.calm = true) (hi : DI O X tg iter ti) (hg : DGw O X tg ws g) (hb : DSs O X body tb)
    (hs : ∀ x, foldedSetIterable iter X.env x = pure x := by intro _; rfl) : DSt O X (.For tg iter body [] pos) (dFor ti g tb) := ps_weak (ps_for hp hc hi hg hb hs) fun Z σ H ⟨F, δ, μ, E, hd, rs, t, L⟩ =>
  ⟨F, δ, μ, _, hd, rs, t, fun F1 H1 μ1 items keep J e1 hd1 ok ⟨P, p0, pk, step, fin⟩ => by
    refine ⟨fun i m σ' H' => m = items.length - i ∧ i ≤ items.length ∧ ∃ F2 δ2 μ2, Ext F1 H1 F2 H' ∧ Hd X.K O F2 H' μ2 ∧ RepS X.K F2 H' δ2 σ' ∧ P i δ2 μ2, ⟨_, rfl, Nat.zero_le _, F1, δ, μ1, Ext.refl _ _, hd1, rs.ext e1, p0⟩, ?_⟩
    rintro i m σ2 H2 ⟨rfl, hi, F2, δ2, μ2, e2, hd2, rs2, p2⟩
    have kk := pk i δ2 μ2 hi p2
    by_cases hlt : i < items.length
    · refine .inr ⟨ok.go i F2 H2 μ2 e2 hd2 kk hlt, fun σ' H' => ∃ F2 δ2 μ2, Ext F1 H1 F2 H' ∧ Hd X.K O F2 H' μ2 ∧ RepS X.K F2 H' δ2 σ' ∧ P (i + 1) δ2 μ2, fun σ' H' q => ⟨_, by omega, rfl, hlt, q⟩, fun x H3 hy => ?_⟩
      obtain ⟨F3, d, e3, hd3, hd', r3⟩ := ok.yld i F2 H2 μ2 x H3 e2 hd2 kk hlt hy
      refine ⟨F3, d, δ2, μ2, _, hd3, rs2.ext e3, r3, step i d δ2 μ2 hd' p2, fun F4 H4 μ4 δ4 σ4 e4 hd4 rs4 _ t4 => ?_⟩
      have e14 := (e2.trans e3).trans e4
      exact ⟨F4, δ4, μ4, _, hd4, rs4, t4, ⟨fun F5 H5 μ5 δ5 σ5 e5 hd5 rs5 q => ⟨F5, δ5, μ5, e14.trans e5, hd5, rs5, q⟩, fun F5 H5 μ5 d5 v5 e5 => L.rt F5 H5 μ5 d5 v5 ((e1.trans e14).trans e5),
        fun F5 H5 μ5 δ5 σ5 e5 => L.nx F5 H5 μ5 δ5 σ5 ((e1.trans e14).trans e5), fun F5 H5 μ5 δ5 σ5 e5 hd5 rs5 q => ⟨F5, δ5, μ5, e14.trans e5, hd5, rs5, q⟩⟩⟩
    · have e : i = items.length := by omega
      subst e
      exact .inl ⟨ok.stop _ F2 H2 μ2 e2 hd2 kk (Nat.le_refl _), L.nx F2 H2 μ2 δ2 σ2 (e1.trans e2) hd2 rs2 (fin δ2 μ2 p2)⟩⟩
theorem ds_while (hp : PassesOwn (model X.prog X.w) X.A X.env X.xe) (hc : DT O X c tc) (hb : DSs O X body tb) : DSt O X (.While c body [] pos) (dWhile tc tb) := ps_weak (ps_while hp hc hb) fun Z σ H ⟨F, δ, μ, E, hd, rs, ⟨P, ⟨m0, p0⟩, step⟩, L⟩ => by
  refine ⟨fun m σ' H' => ∃ F2 δ2 μ2, Ext F H F2 H' ∧ Hd X.K O F2 H' μ2 ∧ RepS X.K F2 H' δ2 σ' ∧ P m δ2 μ2, ⟨m0, F, δ, μ, Ext.refl _ _, hd, rs, p0⟩, ?_⟩
  rintro m σ2 H2 ⟨F2, δ2, μ2, e2, hd2, rs2, p2⟩
  refine ⟨F2, δ2, μ2, _, hd2, rs2, step m δ2 μ2 p2, fun F3 H3 μ3 b e3 hd3 t3 => ?_⟩
  have e13 := e2.trans e3
  cases b with
  | true =>
    rw [if_pos rfl] at t3
    dsimp only
    rw [if_pos rfl]
    refine ⟨fun σ' H' => ∃ F2 δ2 μ2, Ext F H F2 H' ∧ Hd X.K O F2 H' μ2 ∧ RepS X.K F2 H' δ2 σ' ∧ ∃ m', m' < m ∧ P m' δ2 μ2, fun σ' H' ⟨F5, δ5, μ5, e5, hd5, rs5, m', hm, q⟩ => ⟨m', hm, F5, δ5, μ5, e5, hd5, rs5, q⟩, ?_⟩
    exact ⟨F3, δ2, μ3, _, hd3, rs2.ext e3, t3, ⟨fun F5 H5 μ5 δ5 σ5 e5 hd5 rs5 q => ⟨F5, δ5, μ5, e13.trans e5, hd5, rs5, q⟩, fun F5 H5 μ5 d5 v5 e5 => L.rt F5 H5 μ5 d5 v5 (e13.trans e5),
      fun F5 H5 μ5 δ5 σ5 e5 => L.nx F5 H5 μ5 δ5 σ5 (e13.trans e5), fun F5 H5 μ5 δ5 σ5 e5 hd5 rs5 q => ⟨F5, δ5, μ5, e13.trans e5, hd5, rs5, q⟩⟩⟩
  | false =>
    rw [if_neg Bool.false_ne_true] at t3
    dsimp only
    rw [if_neg Bool.false_ne_true]
    exact L.nx F3 H3 μ3 δ2 σ2 e13 hd3 (rs2.ext e3) t3
end

/-! ### comprehensions -/
abbrev DTs (O : Org) (X : Cx) (ifs : List Expr) (t : DTT) : Prop := PTs X ifs (LT X.K O t)
def dYes : DTT := fun _ μ q => q true μ
def dLc (ti : DTI) (g : DTG) (tt : DTT) (te : DTE) (vs : List Nat) : DTE := fun δ μ q => ti δ μ fun items keep μ1 => ∃ P : Nat → List D → Mu → Prop, P 0 [] μ1 ∧ (∀ i l μ, i ≤ items.length → P i l μ → keep μ ∧ l.length < sizeLine) ∧
  (∀ i d l μ, items[i]? = some d → P i l μ → g d (wipeD δ vs) μ fun δ2 μ2 => tt δ2 μ2 fun b μ3 => if b = true then te δ2 μ3 fun y μ4 => P (i + 1) (l ++ [y]) μ4 else P (i + 1) l μ3) ∧ ∀ l μ, P items.length l μ → q (.lst l) μ
section
variable {O : Org} {X : Cx}
theorem dts_nil : DTs O X [] dYes := ⟨fun pins s σ H Q I ⟨F, δ, μ, q, hd, rs, t, k⟩ => pts_nil.run pins s σ H Q I (k F H μ true (Ext.refl F H) hd t)⟩
theorem dts_one {c : Expr} {t : DTT} (h : DT O X c t) : DTs O X [c] t := pts_one h
theorem llc {K : PySem.W.Frag} {ti : DTI} {g : DTG} {tt : DTT} {te : DTE} {ws vs : List Nat} (hw : ∀ i ∈ ws, i ∈ vs) : ∀ σ H Q, LE K O (dLc ti g tt te vs) σ H Q → tLc (LI K O ti) (LGw K O ws g) (LT K O tt) (LE K O te) vs σ H Q := fun σ H Q ⟨F, δ, μ, q, hd, rs, t, k⟩ =>
  ⟨F, δ, μ, _, hd, rs, t, fun F1 H1 μ1 items keep J e1 hd1 ok ⟨P, p0, pk, step, fin⟩ => by
    intro A hA
    -- the new list stays out of reach: what is said holds of the heap with it
    have nG : ¬ F1.G A := hd1.nf hA
    refine ⟨fun i m H' => m = items.length - i ∧ i ≤ items.length ∧ ∃ F2 l us μ2, Ext F1 H1 F2 H' ∧ Hd K O F2 H' μ2 ∧ ¬ F2.G A ∧ μ2 A = none ∧ H' A = some (.lst us) ∧ RepL K F2 H' l us ∧ P i l μ2, ⟨_, rfl, Nat.zero_le _, F1, [], [], μ1, ext_new hd1 hA, ⟨hd1.org.trans (ext_new hd1 hA), fun a f => ?_, fun a m e => ?_⟩, nG, hd1.free hA, upd_same, RepL.nil, p0⟩, ?_⟩
    · have z : a ≠ A := fun z => nG (z ▸ f)
      rw [upd_ne z]; exact hd1.fr a f
    · have z : a ≠ A := fun z => by rw [z, hd1.free hA] at e; cases e
      exact ⟨(hd1.own a m e).1, (hd1.own a m e).2.ext (ext_new hd1 hA) (upd_ne z)⟩
    rintro i m H2 ⟨rfl, hi, F2, l, us, μ2, e2, hd2, nA, mA, hA2, rl, p2⟩
    obtain ⟨kk, hsz⟩ := pk i l μ2 hi p2
    by_cases hlt : i < items.length
    · refine .inr ⟨ok.go i F2 H2 μ2 e2 hd2 kk hlt, fun H' => ∃ F2 l us μ2, Ext F1 H1 F2 H' ∧ Hd K O F2 H' μ2 ∧ ¬ F2.G A ∧ μ2 A = none ∧ H' A = some (.lst us) ∧ RepL K F2 H' l us ∧ P (i + 1) l μ2, fun H' q => ⟨_, by omega, rfl, hlt, q⟩, fun x H3 hy => ?_⟩
      have ep : Ext F2 H2 (addG F2 A) H2 := ⟨fun _ f => f, fun _ f => .inl f, fun _ _ => rfl, fun _ _ f => f⟩
      have hdp : Hd K O (addG F2 A) H2 μ2 := by
        refine ⟨hd2.org.trans ep, fun a f => f.elim (hd2.fr a) fun z => by rw [z, hA2]; simp, fun a m e => ?_⟩
        have z : a ≠ A := fun z => by rw [z, mA] at e; cases e
        exact ⟨fun f => f.elim (hd2.own a m e).1 z, (hd2.own a m e).2.ext ep rfl⟩
      obtain ⟨F3, d, e3, hd3, hd', r3⟩ := ok.yld i (addG F2 A) H2 μ2 x H3 (e2.trans ep) hdp kk hlt hy
      have e03 := (e1.trans (e2.trans ep)).trans e3
      refine ⟨F3, d, wipeD δ vs, μ2, _, hd3, (rs.wipe vs).ext e03, r3, step i d l μ2 hd' p2, fun F4 H4 μ4 δ4 σ4 e4 hd4 rs4 a4 t4 => ⟨(wipe_agr (a4.mono hw)).trans (wipe_wipe σ vs), F4, δ4, μ4, _, hd4, rs4, t4, fun F5 H5 μ5 b e5 hd5 t5 => ?_⟩⟩
      have e25 : Ext (addG F2 A) H2 F5 H5 := (e3.trans e4).trans e5
      -- what a turn leaves, whether or not something was appended
      have close : ∀ F6 H6 μ6, Ext (addG F2 A) H2 F6 H6 → Hd K O F6 H6 μ6 → ∀ (l' : List D) (us' : List V), RepL K F6 H6 l' us' → P (i + 1) l' μ6 →
          ∃ F7 l7 us7 μ7, Ext F1 H1 F7 (upd H6 A (.lst us')) ∧ Hd K O F7 (upd H6 A (.lst us')) μ7 ∧ ¬ F7.G A ∧ μ7 A = none ∧ (upd H6 A (.lst us')) A = some (.lst us7) ∧ RepL K F7 (upd H6 A (.lst us')) l7 us7 ∧ P (i + 1) l7 μ7 := by
        intro F6 H6 μ6 e6 hd6 l' us' r' p'
        have nf : ¬ F6.F A := fun f => nA (F2.sub A (e6.o A (.inr rfl) f))
        have gA : F6.G A := e6.g A (.inr rfl)
        have mA6 : μ6 A = none := by
          cases e : μ6 A with
          | none => rfl
          | some m => exact absurd gA (hd6.own A m e).1
        have le : Le F6 H6 (remG F6 A nf) (upd H6 A (.lst us')) := ⟨fun _ f => f, fun {a} f => upd_ne fun z => nf (z ▸ f)⟩
        have ex1 : Ext F1 H1 (remG F6 A nf) (upd H6 A (.lst us')) := ⟨fun a f => e6.f a (e2.f a f), fun a f => ⟨e6.g a (.inl (e2.g a f)), fun z => nG (z ▸ f)⟩, fun a f => by
          have z : a ≠ A := fun z => nG (z ▸ f)
          rw [upd_ne z, e6.h a (.inl (e2.g a f)), e2.h a f], fun a f k => e2.o a f (e6.o a (.inl (e2.g a f)) k)⟩
        refine ⟨remG F6 A nf, l', us', μ6, ex1, ⟨hd1.org.trans ex1, fun a f => ?_, fun a m e => ?_⟩, fun f => f.2 rfl, mA6, upd_same, r'.mv le, p'⟩
        · rw [upd_ne f.2]; exact hd6.fr a f.1
        · have z : a ≠ A := fun z => by rw [z, mA6] at e; cases e
          exact ⟨fun f => (hd6.own a m e).1 f.1, (hd6.own a m e).2.mv le (upd_ne z)⟩
      cases b with
      | true =>
        rw [if_pos rfl] at t5
        dsimp only
        rw [if_pos rfl]
        refine ⟨F5, δ4, μ5, _, hd5, rs4.ext e5, t5, fun F6 H6 μ6 y v e6 hd6 r6 t6 => ?_⟩
        have e26 := e25.trans e6
        refine ⟨us, (e26.h A (.inr rfl)).trans hA2, by rw [← rl.length]; exact hsz, ?_⟩
        exact close F6 H6 μ6 e26 hd6 (l ++ [y]) (us ++ [v]) (((rl.ext ep).ext e26).append (.cons r6 RepL.nil)) t6
      | false =>
        rw [if_neg Bool.false_ne_true] at t5
        dsimp only
        rw [if_neg Bool.false_ne_true]
        have c := close F5 H5 μ5 e25 hd5 l us ((rl.ext ep).ext e25) t5
        have eu : upd H5 A (.lst us) = H5 := by
          funext b
          unfold upd
          split
          · rename_i e; rw [e, (e25.h A (.inr rfl)).trans hA2]
          · rfl
        rw [eu] at c
        exact c
    · have e : i = items.length := by omega
      subst e
      refine .inl ⟨ok.stop _ F2 H2 μ2 e2 hd2 kk (Nat.le_refl _), ?_⟩
      have ex : Ext F2 H2 (addF F2 A) H2 := ⟨fun _ f => .inl f, fun _ f => .inl f, fun _ _ => rfl, fun a f z => z.elim id fun z => absurd (z ▸ f) nA⟩
      refine k (addF F2 A) H2 μ2 (.lst l) (.ref A) ((e1.trans e2).trans ex) ⟨hd2.org.trans ex, fun a f => ?_, fun a m e => ?_⟩ ⟨A, us, rfl, ⟨.inr rfl, hA2⟩, rl.ext ex⟩ (fin l μ2 p2)
      · rcases f with f | f
        · exact hd2.fr a f
        · rw [f, hA2]; simp
      · have z : a ≠ A := fun z => by rw [z, mA] at e; cases e
        exact ⟨fun f => f.elim (hd2.own a m e).1 z, (hd2.own a m e).2.ext ex rfl⟩⟩
theorem de_lc {elt tg iter : Expr} {ifs : List Expr} {scope : Scope} {own : List (Str × Nat)} {pos : Pos} {ti : DTI} {g : DTG} {tt : DTT} {te : DTE} {ws : List Nat} (hc : X.calm = true) (hN : X.N.Nodup) (hi : DI O X tg iter ti) (ok : BlkOk X.N X.env.scope scope own) (hw : ∀ i ∈ ws, i ∈ own.map (·.2))
    (hg : ∀ (s : Shared) (H : Hp) (C : Addr) (cl : List (Str × Addr)) (fp : List Addr), DGw O (X.blk s H scope (compEnvC scope cl C X.env) fp) tg ws g) (ht : ∀ (s : Shared) (H : Hp) (C : Addr) (cl : List (Str × Addr)) (fp : List Addr), DTs O (X.blk s H scope (compEnvC scope cl C X.env) fp) ifs tt)
    (he : ∀ (s : Shared) (H : Hp) (C : Addr) (cl : List (Str × Addr)) (fp : List Addr), DE O (X.blk s H scope (compEnvC scope cl C X.env) fp) elt te) (hs : ∀ x, foldedSetIterable iter X.env x = pure x := by intro _; rfl) :
    DE O X (.ListComp elt [⟨tg, iter, ifs, 0⟩] scope pos) (dLc ti g tt te (own.map (·.2))) := pe_weak (pe_lc hc hN hi ok hg ht he hs) (llc hw)
theorem ds_setLc {i : Nat} {y : Str} {py : Pos} {elt tg iter : Expr} {ifs : List Expr} {scope : Scope} {own : List (Str × Nat)} {pos spos : Pos} {ti : DTI} {g : DTG} {tt : DTT} {te : DTE} {ws : List Nat} (hc : X.calm = true) (hN : X.N.Nodup) (hy : X.N[i]? = some y) (hyl : X.env.scope.names.lookup y = some .local)
    (hsw : swapsWith (.ListComp elt [⟨tg, iter, ifs, 0⟩] scope pos) (some (.Name y py)) spos.line X.env = pure true) (hi : DI O X tg iter ti) (ok : BlkOk X.N X.env.scope scope own) (hw : ∀ i ∈ ws, i ∈ own.map (·.2))
    (hg : ∀ (s : Shared) (H : Hp) (C : Addr) (cl : List (Str × Addr)) (fp : List Addr), DGw O (X.blk s H scope (compEnvC scope cl C X.env) fp) tg ws g) (ht : ∀ (s : Shared) (H : Hp) (C : Addr) (cl : List (Str × Addr)) (fp : List Addr), DTs O (X.blk s H scope (compEnvC scope cl C X.env) fp) ifs tt)
    (he : ∀ (s : Shared) (H : Hp) (C : Addr) (cl : List (Str × Addr)) (fp : List Addr), DE O (X.blk s H scope (compEnvC scope cl C X.env) fp) elt te) (hs : ∀ x, foldedSetIterable iter X.env x = pure x := by intro _; rfl) :
    DSt O X (.Assign [.Name y py] (.ListComp elt [⟨tg, iter, ifs, 0⟩] scope pos) spos) (dAsg (dLc ti g tt te (own.map (·.2))) (dgName i)) := ps_weak (ps_setLc hc hN hy hyl hsw hi ok hg ht he hs) fun Z σ H ⟨F, δ, μ, E, hd, rs, t, L⟩ =>
  llc hw σ H _ ⟨F, δ, μ, _, hd, rs, t, fun F1 H1 μ1 d v e1 hd1 r1 t1 => L.nx F1 H1 μ1 _ _ e1 hd1 ((rs.ext e1).set r1) t1⟩
end
end DL

set_option Elab.async false
set_option linter.all false
set_option maxRecDepth 100000
namespace DL
open PySem L2 PySem.Spec PyProof.Rows

/-! ### defs: as FnOk, where no guard of repr stands around -/
structure FnG (P : Program) (w : World) (K : PySem.W.Frag) (mg : Str → Option Value) (base : Heap) (k : Nat) (f : Addr) (fd : FuncData) (ps : List Str) (sp : Sp) : Prop where
  len : ∀ vs H Q E, sp vs H Q E → vs.length = ps.length
  run : ∀ (A : Around) (outer : List Env) (s : Shared) (H : Hp) (args : Args) (us : List Value) (vs : List V) (Q : VK) (E : XK), Room k A → A.guards = some [] → Env0 P w K mg base A outer s H →
    BindsTo s fd args (ps.zip us) → Vals vs us → sp vs H Q E → codeAny (model P w) A (.call (.ref f) args) (CR (CX P w) outer P w H s Q E) s
section
variable {P : Program} {w : World} {K : PySem.W.Frag} {mg : Str → Option Value} {base : Heap}
theorem FnG.mono {j k : Nat} {f : Addr} {fd : FuncData} {ps : List Str} {sp : Sp} (F : FnG P w K mg base j f fd ps sp) (h : j ≤ k) : FnG P w K mg base k f fd ps sp :=
  ⟨F.len, fun A outer s H args us vs Q E hr => F.run A outer s H args us vs Q E (hr.mono h)⟩
theorem fnG_of {x qual : Str} {st : Stmt} {f : Addr} {fd : FuncData} {N ps : List Str} {k : Nat} {sp : Sp} (F : Fun K x qual st f fd) (S : FnScope N ps (defScope st)) (len : ∀ vs H Q E, sp vs H Q E → vs.length = ps.length)
    (body : ∀ (cdv : Value) (A : Around) (outer : List Env) (s : Shared) (H : Hp) (vs : List V) (Q : VK) (E : XK), Room k (A.deeper (envOfC qual (defScope st) s.heap.objs.size f cdv)) → A.guards = some [] → sp vs H Q E →
      ∃ t, PSs (cxOf (CX P w) P w K mg base N qual (defScope st) f cdv A outer s H E) (defBody st) t ∧ t { nx := fun _ H' => Q .non H', rt := Q } (start N vs) H) : FnG P w K mg base (k + 1) f fd ps sp := by
  obtain ⟨oc, od, kV, doc, pm, an, cdv, ct, osl, rfl, lk, hcd⟩ := F.ex
  refine ⟨len, ?_⟩
  intro A outer s H args us vs Q E room gd e0 bnd rel hsp
  have inK : K.In s.heap := e0.mod.kin.keeps fun b o z => (e0.bs b o z).1
  have nolim : s.heap.NoLimit := e0.mod.nolimit.keeps fun b o z => (e0.bs b o z).1
  refine codeAny_call_function room.depth (inK _ _ lk) rfl S.co S.gen rfl (PySem.W.codeRec_of inK hcd) (bnd _ _ _ _ ?_)
  refine wpAny_newFunctionEnv_cells S.kind ?_ ?_
  · rintro ⟨n, v⟩ hy
    rcases S.par n (List.of_mem_zip hy).1 with q | q
    · exact .inl q
    · exact .inr ⟨q, PySem.W.cellsFrom_some _ _ _ (.inl q)⟩
  intro env he s1 inC
  subst he
  refine ⟨nolim.keeps inC.toInCall.keep, codeAny_func ?_⟩
  obtain ⟨t, der, q⟩ := body cdv A outer s H vs Q E (room.deeper _) gd hsp
  have I := inv_start (CX := CX P w) (E := E) S room.hd e0 (len _ _ _ _ hsp) rel inC
  refine wpAny_mono (der.run [] s1 (start N vs) H _ I q) ?_ fun _ _ z => z
  intro fl s2 sp2
  match fl, sp2 with
  | .ret u, ⟨v, σ2, H2, J, rv, q2⟩ => exact ⟨v, H2, J.os, J.bare, J.base, J.hok, rv, q2⟩
  | .next, ⟨σ2, H2, J, q2⟩ => exact ⟨V.non, H2, J.os, J.bare, J.base, J.hok, rfl, q2⟩
  | .brk, ⟨_, _, _, q2⟩ => exact q2.elim
  | .cont, ⟨_, _, _, q2⟩ => exact q2.elim
end
section
variable {X : Cx} {k : Nat} {f C : Addr} {fd : FuncData} {ps : List Str} {sp : Sp} {dvs : List V} {ds : List Value} {E : XK} {x m : Str} {p pos apos : Pos} {e o : Expr} {es : List Expr} {ta : TE} {t : TA}
theorem run_fnG {pins : List (Addr × Obj)} {σ : L2.St} {H : Hp} {s : Shared} {Q : VK} {us : List Value} {vs : List V} (F : FnG X.prog X.w X.K X.mg X.base k f fd ps sp) (hr : Room k X.A) (hgd : X.A.guards = some []) (hb : Binds X.K fd ps ds) (hd : Vals dvs ds) (hx : Passes (CX X.prog X.w) X E)
    (I : Inv X pins σ H s) (r : Vals vs us) (h : sp (vs ++ dvs) H Q E) : wpAny (model X.prog X.w) X.A (call (.ref f) us) (EP X pins σ Q) X.xe s := by
  have rel := r.append hd
  have hl : (us ++ ds).length = ps.length := rel.length.symm.trans (F.len _ _ _ _ h)
  refine wpAny_call (codeAny_mono (F.run X.A X.stack s H ⟨us, []⟩ _ _ Q E hr hgd I.env0 (hb s us I.kIn hl) rel h) ?_)
  intro res s2 end2
  match res, end2 with
  | .error e, end2 => exact hx pins σ H s e s2 I end2
  | .ok (.ret u), end2 => exact I.after end2
theorem pe_callG (F : FnG X.prog X.w X.K X.mg X.base k f fd ps sp) (hr : Room k X.A) (hgd : X.A.guards = some []) (hg : Gl X x) (hm : X.mg x = some (.ref f)) (hk : PySem.W.keepIn X.K (.ref f) = true) (hb : Binds X.K fd ps ds) (hd : Vals dvs ds) (hx : Passes (CX X.prog X.w) X E)
    (ha : PA X (e :: es) t) (hdb : (x == ("__debug__" : Str)) = false := by decide) (he : starEach (e :: es) X.env = (false, eval e X.env) :: starEach es X.env := by rfl) (hpl : (backTo pos (starEach es X.env)).any (·.1) = false := by rfl) :
    PE X (.Call (.Name x p) (e :: es) [] pos) (tCall sp dvs E t) := by
  constructor
  intro pins s σ H Q I h
  refine wpAny_Call_Name_kw (ld_glob I hg hm ?_ hdb)
  refine PySem.W.callWith_K (h₀ := X.base) I.ok.mod.kin hk (thn (ha.run pos pins s σ H _ I h) ?_) he hpl
  rintro us s1 ⟨vs, H1, I1, r, q⟩
  exact ⟨I1.kIn, run_fnG F hr hgd hb hd hx I1 r q⟩
theorem pe_callG0 (F : FnG X.prog X.w X.K X.mg X.base k f fd ps sp) (hr : Room k X.A) (hgd : X.A.guards = some []) (hg : Gl X x) (hm : X.mg x = some (.ref f)) (hk : PySem.W.keepIn X.K (.ref f) = true) (hb : Binds X.K fd ps ds) (hd : Vals dvs ds) (hx : Passes (CX X.prog X.w) X E)
    (hdb : (x == ("__debug__" : Str)) = false := by decide) : PE X (.Call (.Name x p) [] [] pos) (tCall sp dvs E tNil) := by
  constructor
  intro pins s σ H Q I h
  exact wpAny_Call_Name_kw (ld_glob I hg hm (PySem.W.callWith_K0 I.kIn hk (run_fnG (us := []) F hr hgd hb hd hx I .nil h)) hdb)
end

/-! ### defs over data -/
abbrev DX := Addr → D → Mu → Prop
abbrev DSp := List D → Mu → DK → DX → Prop
/-- the exception that leaves: its class, what its attribute value holds -/
def LX (K : PySem.W.Frag) (O : Org) (e : DX) : XK := fun cls dd H' => ∃ C a v d F' μ', cls = .ref C ∧ dd = some a ∧ H' a = some (.xd [(("value" : Str), v)]) ∧ Hd K O F' H' μ' ∧ Rep K F' H' d v ∧ e C d μ'
def LSp (K : PySem.W.Frag) (c : DSp) : Sp := fun vs H Q E => ∃ F μ ds q e, Hd K ⟨F, H⟩ F H μ ∧ RepL K F H ds vs ∧ c ds μ q e ∧ (∀ F' H' μ' d v, Hd K ⟨F, H⟩ F' H' μ' → Rep K F' H' d v → q d μ' → Q v H') ∧
  ∀ cls dd H', LX K ⟨F, H⟩ e cls dd H' → E cls dd H'
def dCall (c : DSp) (e : DX) (dds : List D) (t : DTA) : DTE := fun δ μ q => t δ μ fun ds μ1 => c (ds ++ dds) μ1 q e
/-- nothing is raised -/
def eN : DX := fun _ _ _ => False
theorem Hd.re {K : PySem.W.Frag} {O O' : Org} {F : Zo} {H : Hp} {μ : Mu} (h : Hd K O F H μ) (x : Ext O'.F O'.H F H) : Hd K O' F H μ := ⟨x, h.fr, h.own⟩
theorem Hd.here {K : PySem.W.Frag} {O : Org} {F : Zo} {H : Hp} {μ : Mu} (h : Hd K O F H μ) : Hd K ⟨F, H⟩ F H μ := h.re (Ext.refl F H)
theorem Hd.back {K : PySem.W.Frag} {O : Org} {F F' : Zo} {H H' : Hp} {μ μ' : Mu} (h : Hd K O F H μ) (k : Hd K ⟨F, H⟩ F' H' μ') : Hd K O F' H' μ' ∧ Ext F H F' H' := ⟨k.re (h.org.trans k.org), k.org⟩
/-- what a derivation knows of where it stands -/
structure Ctx (O : Org) (X : Cx) (k : Nat) (e : DX) : Prop where
  room : Room k X.A
  gd : X.A.guards = some []
  px : Passes (CX X.prog X.w) X (LX X.K O e)
theorem passesN {X : Cx} {O : Org} : Passes (CX X.prog X.w) X (LX X.K O eN) := fun pins σ H s e s' I h => by
  obtain ⟨a, B, H', cls, d, _, _, _, _, _, _, _, C, a', v, d', F', μ', _, _, _, _, _, z⟩ := h
  exact z.elim
section
variable {O : Org} {X : Cx} {k j : Nat} {f : Addr} {fd : FuncData} {ps : List Str} {c : DSp} {e : DX} {dvs : List V} {ds : List Value} {dds : List D} {x : Str} {p pos : Pos} {a : Expr} {es : List Expr} {t : DTA}
theorem lcall {K : PySem.W.Frag} (hdd : ∀ F H, RepL K F H dds dvs) : ∀ σ H Q, LE K O (dCall c e dds t) σ H Q → tCall (LSp K c) dvs (LX K O e) (LA K O t) σ H Q := fun σ H Q ⟨F, δ, μ, q, hd, rs, t, k⟩ =>
  ⟨F, δ, μ, _, hd, rs, t, fun F1 H1 μ1 ds vs e1 hd1 r1 t1 => ⟨F1, μ1, ds ++ dds, q, e, hd1.here, r1.append (hdd F1 H1), t1, fun F2 H2 μ2 d v hd2 r2 q2 => by
    obtain ⟨h1, h2⟩ := hd1.back hd2
    exact k F2 H2 μ2 d v (e1.trans h2) h1 r2 q2, fun cls dd H' ⟨C, b, v, d, F', μ', h1, h2, h3, h4, h5, h6⟩ => ⟨C, b, v, d, F', μ', h1, h2, h3, (hd1.back h4).1, h5, h6⟩⟩⟩
theorem de_call (F : FnG X.prog X.w X.K X.mg X.base j f fd ps (LSp X.K c)) (hr : Room j X.A) (hgd : X.A.guards = some []) (hg : Gl X x) (hm : X.mg x = some (.ref f)) (hk : PySem.W.keepIn X.K (.ref f) = true) (hb : Binds X.K fd ps ds) (hd : Vals dvs ds) (hdd : ∀ F H, RepL X.K F H dds dvs) (hx : Passes (CX X.prog X.w) X (LX X.K O e))
    (ha : DA O X (a :: es) t) (hdb : (x == ("__debug__" : Str)) = false := by decide) (he : starEach (a :: es) X.env = (false, eval a X.env) :: starEach es X.env := by rfl) (hpl : (backTo pos (starEach es X.env)).any (·.1) = false := by rfl) :
    DE O X (.Call (.Name x p) (a :: es) [] pos) (dCall c e dds t) := pe_weak (pe_callG F hr hgd hg hm hk hb hd hx ha hdb he hpl) (lcall hdd)
theorem de_call0 (F : FnG X.prog X.w X.K X.mg X.base j f fd ps (LSp X.K c)) (hr : Room j X.A) (hgd : X.A.guards = some []) (hg : Gl X x) (hm : X.mg x = some (.ref f)) (hk : PySem.W.keepIn X.K (.ref f) = true) (hb : Binds X.K fd ps ds) (hd : Vals dvs ds) (hdd : ∀ F H, RepL X.K F H dds dvs) (hx : Passes (CX X.prog X.w) X (LX X.K O e))
    (hdb : (x == ("__debug__" : Str)) = false := by decide) : DE O X (.Call (.Name x p) [] [] pos) (dCall c e dds dNil) := pe_weak (pe_callG0 F hr hgd hg hm hk hb hd hx hdb) fun σ H Q h => by
  obtain ⟨F1, δ, μ, q, hd1, rs, t1, k1⟩ := h
  have := lcall (t := dNil) hdd σ H Q ⟨F1, δ, μ, q, hd1, rs, t1, k1⟩
  obtain ⟨F2, δ2, μ2, q2, hd2, rs2, t2, k2⟩ := this
  exact k2 F2 H μ2 [] [] (Ext.refl _ _) hd2 RepL.nil t2
end
/-- the slots at the entry -/
def startD (n : Nat) (ds : List D) : DS := ds.map some ++ List.replicate (n - ds.length) none
theorem repS_start {K : PySem.W.Frag} {F : Zo} {H : Hp} {N : List Str} {ds : List D} {vs : List V} (r : RepL K F H ds vs) : RepS K F H (startD N.length ds) (L2.start N vs) := by
  have hl := r.length
  refine ⟨by simp [startD, L2.start, hl], fun i d e => ?_⟩
  unfold startD at e
  unfold L2.start
  by_cases hi : i < ds.length
  · rw [List.getElem?_append_left (by simpa using hi), List.getElem?_map] at e
    cases e2 : ds[i]? with
    | none => rw [e2] at e; simp at e
    | some d' =>
      rw [e2] at e
      have e : d' = d := by simpa using e
      subst e
      obtain ⟨v, h1, h2⟩ := r.get e2
      refine ⟨v, ?_, h2⟩
      rw [List.getElem?_append_left (by rw [List.length_map, ← hl]; exact hi), List.getElem?_map, h1]
      rfl
  · rw [List.getElem?_append_right (by simpa using hi), List.getElem?_replicate] at e
    split at e <;> simp at e
/-- behind the body: what was made on the way may be dropped -/
def endsD (q : DK) : DEnds where
  nx := fun _ μ' => ∃ μ2, Sub μ2 μ' ∧ q .non μ2
  rt := fun d μ' => ∃ μ2, Sub μ2 μ' ∧ q d μ2
section
variable {P : Program} {w : World} {K : PySem.W.Frag} {mg : Str → Option Value} {base : Heap}
/-- THE RULE for a def: its body's derivation, and that the body's reading keeps the contract -/
theorem fnD_of {x qual : Str} {st : Stmt} {f : Addr} {fd : FuncData} {N ps : List Str} {k n : Nat} {c : DSp} {t : DX → DTS} (F : Fun K x qual st f fd) (S : FnScope N ps (defScope st)) (hn : N.length = n) (len : ∀ ds μ q e, c ds μ q e → ds.length = ps.length)
    (der : ∀ (cdv : Value) (A : Around) (outer : List Env) (s : Shared) (H : Hp) (E : XK) (O : Org) (e : DX), Ctx O (cxOf (CX P w) P w K mg base N qual (defScope st) f cdv A outer s H E) k e →
      Takes (cxOf (CX P w) P w K mg base N qual (defScope st) f cdv A outer s H E) (fun cls d _ H2 => LX K O e cls d H2) →
      PassesOwn (model P w) (A.deeper (envOfC qual (defScope st) s.heap.objs.size f cdv)) (envOfC qual (defScope st) s.heap.objs.size f cdv) (cxOf (CX P w) P w K mg base N qual (defScope st) f cdv A outer s H E).xe →
      DSs O (cxOf (CX P w) P w K mg base N qual (defScope st) f cdv A outer s H E) (defBody st) (t e))
    (ok : ∀ ds μ q e, c ds μ q e → t e (endsD q) (startD n ds) μ) : FnG P w K mg base (k + 1) f fd ps (LSp K c) := by
  subst hn
  refine fnG_of F S (fun vs H Q E ⟨F, μ, ds, q, e, hd, r, hc, _⟩ => by rw [← r.length]; exact len _ _ _ _ hc) ?_
  rintro cdv A outer s H vs Q E room gd ⟨F0, μ, ds, q, e, hd, r, hc, hq, hE⟩
  have tk : Takes (cxOf (CX P w) P w K mg base N qual (defScope st) f cdv A outer s H E) (fun cls d _ H2 => LX K ⟨F0, H⟩ e cls d H2) := by
    have z := takes_of (X := cxOf (CX P w) P w K mg base N qual (defScope st) f cdv A outer s H E) (E := E) rfl rfl rfl rfl
    exact z.imp fun cls d _ H' h => hE cls d H' h
  have ow : PassesOwn (model P w) (A.deeper (envOfC qual (defScope st) s.heap.objs.size f cdv)) (envOfC qual (defScope st) s.heap.objs.size f cdv) (cxOf (CX P w) P w K mg base N qual (defScope st) f cdv A outer s H E).xe :=
    passes_of (X := cxOf (CX P w) P w K mg base N qual (defScope st) f cdv A outer s H E) rfl
  refine ⟨_, der cdv A outer s H E ⟨F0, H⟩ e ⟨room, gd, passes_call tk fun _ _ _ _ h => h⟩ tk ow, F0, startD N.length ds, μ, _, hd, repS_start r, ok ds μ q e hc, ⟨?_, ?_, ?_, ?_⟩⟩
  · rintro F1 H1 μ1 δ1 σ1 e1 hd1 rs1 ⟨μ2, s2, q2⟩
    exact hq F1 H1 μ2 .non .non (hd1.sub s2) rfl q2
  · rintro F1 H1 μ1 d v e1 hd1 r1 ⟨μ2, s2, q2⟩
    exact hq F1 H1 μ2 d v (hd1.sub s2) r1 q2
  · intro _ _ _ _ _ _ _ _ z; exact z.elim
  · intro _ _ _ _ _ _ _ _ z; exact z.elim
end
end DL

set_option Elab.async false
set_option linter.all false
set_option maxRecDepth 100000
namespace DL
open PySem L2 PySem.Spec PyProof.Rows

/-! ### built-ins by values -/
def dCB (rd : DC2) (t : DTA) : DTE := fun δ μ q => t δ μ fun ds μ1 => rd ds μ1 q
section
variable {O : Org} {X : Cx} {x : Str} {p pos : Pos} {a : Expr} {es : List Expr} {t : DTA} {id T : String} {r : List V → Hp → VK → Prop} {rd : DC2}
theorem lcb {K : PySem.W.Frag} (h : CallD K r rd) : ∀ σ H Q, LE K O (dCB rd t) σ H Q → tCB r (LA K O t) σ H Q := fun σ H Q ⟨F, δ, μ, q, hd, rs, t, k⟩ =>
  ⟨F, δ, μ, _, hd, rs, t, fun F1 H1 μ1 ds vs e1 hd1 r1 t1 => h O F1 H1 μ1 ds vs q Q hd1 r1 t1 fun F' H' μ' d u e2 hd2 r2 q2 => k F' H' μ' d u (e1.trans e2) hd2 r2 q2⟩
theorem de_callB (hc : CallR X (.builtin id) r) (hd : CallD X.K r rd) (hg : Gl X x) (hm : X.mg x = none) (hv : bootBuiltins x = some (.builtin id)) (ha : DA O X (a :: es) t) (hn : x ≠ "__name__" := by decide) (hdb : (x == ("__debug__" : Str)) = false := by decide)
    (he : starEach (a :: es) X.env = (false, eval a X.env) :: starEach es X.env := by rfl) (hpl : (backTo pos (starEach es X.env)).any (·.1) = false := by rfl) : DE O X (.Call (.Name x p) (a :: es) [] pos) (dCB rd t) := pe_weak (pe_callB hc hg hm hv ha hn hdb he hpl) (lcb hd)
theorem de_callTy (hc : CallR X (.type T) r) (hd : CallD X.K r rd) (hg : Gl X x) (hm : X.mg x = none) (hv : bootBuiltins x = some (.type T)) (ha : DA O X (a :: es) t) (hn : x ≠ "__name__" := by decide) (hdb : (x == ("__debug__" : Str)) = false := by decide)
    (he : starEach (a :: es) X.env = (false, eval a X.env) :: starEach es X.env := by rfl) (hpl : (backTo pos (starEach es X.env)).any (·.1) = false := by rfl) : DE O X (.Call (.Name x p) (a :: es) [] pos) (dCB rd t) := pe_weak (pe_callTy hc hg hm hv ha hn hdb he hpl) (lcb hd)
end
def rLenD : DC2 := fun ds μ q => match ds with
  | [.tup l] => q (.int (l.length : Int)) μ
  | [.str z] => z.length ≤ sizeLine ∧ q (.int (z.length : Int)) μ
  | [d] => match lstOf μ d with | some l => q (.int (l.length : Int)) μ | none => False
  | _ => False
def rAbsD : DC2 := fun ds μ q => match ds with | [.int i] => q (.int (if i < 0 then -i else i)) μ | _ => False
def rMax2D : DC2 := fun ds μ q => match ds with | [.int i, .int j] => q (.int (if j > i then j else i)) μ | _ => False
def rMin2D : DC2 := fun ds μ q => match ds with | [.int i, .int j] => q (.int (if j < i then j else i)) μ | _ => False
/-- list(..): a list, a tuple; frozen, to be written -/
def seqOf (μ : Mu) : D → Option (List D)
  | .tup l => some l
  | d => lstOf μ d
def rListD : DC2 := fun ds μ q => match ds with | [d] => (match seqOf μ d with | some l => q (.lst l) μ | none => False) | _ => False
def rListM : DC2 := fun ds μ q => match ds with | [d] => (match seqOf μ d with | some l => ∀ p, μ p = none → q (.adr p) (updM μ p (.lst l)) | none => False) | _ => False
def rTupleD : DC2 := fun ds μ q => match ds with | [d] => (match seqOf μ d with | some l => q (.tup l) μ | none => False) | _ => False
def rSumD : DC2 := fun ds μ q => match ds with | [d] => ∃ ns : List Int, lstOf μ d = some (ns.map D.int) ∧ q (.int ns.sum) μ | _ => False
section
variable {K : PySem.W.Frag}
theorem repL1 {F : Zo} {H : Hp} {d : D} {vs : List V} (r : RepL K F H [d] vs) : ∃ v, vs = [v] ∧ Rep K F H d v := by
  obtain ⟨v, r1, rfl, h1, h2⟩ := r
  have h2 : r1 = [] := h2
  subst h2
  exact ⟨v, rfl, h1⟩
theorem seq_sq {O : Org} {F : Zo} {H : Hp} {μ : Mu} {d : D} {v : V} {l : List D} (hd : Hd K O F H μ) (r : Rep K F H d v) (e : seqOf μ d = some l) : ∃ a vs, v = .ref a ∧ (SqL K H a vs ∨ SqT K H a vs) ∧ RepL K F H l vs := by
  have lst : lstOf μ d = some l → ∃ a vs, v = .ref a ∧ (SqL K H a vs ∨ SqT K H a vs) ∧ RepL K F H l vs := fun e => by
    obtain ⟨a, vs, h1, h2, h3⟩ := list_sq hd r e
    exact ⟨a, vs, h1, .inl h2, h3⟩
  cases d <;> try exact lst e
  obtain ⟨a, vs, h1, h2, h3⟩ := r
  obtain rfl := Option.some.inj e
  exact ⟨a, vs, h1, .inr h2.sq, h3⟩
theorem cd_len : CallD K (fun xs H Q => ∃ x n, xs = [x] ∧ LenV K x H n ∧ Q (.int n) H) rLenD := by
  intro O F H μ ds vs q Q hd rs t k
  unfold rLenD at t
  split at t
  · rename_i l
    obtain ⟨v, rfl, a, us, rfl, h1, h2⟩ := repL1 rs
    exact ⟨_, us.length, rfl, .inr ⟨us, h1.sq, rfl⟩, k F H μ _ _ (Ext.refl F H) hd (by rw [h2.length]; exact rep_int) t⟩
  · rename_i z
    obtain ⟨v, rfl, h1⟩ := repL1 rs
    obtain rfl : v = .str z := h1
    exact ⟨_, z.length, rfl, ⟨t.1, rfl⟩, k F H μ _ _ (Ext.refl F H) hd rep_int t.2⟩
  · rename_i d _ _
    obtain ⟨v, rfl, h1⟩ := repL1 rs
    split at t
    · rename_i l e
      obtain ⟨a, us, rfl, h2, h3⟩ := list_sq hd h1 e
      exact ⟨_, us.length, rfl, .inl ⟨us, h2, rfl⟩, k F H μ _ _ (Ext.refl F H) hd (by rw [h3.length]; exact rep_int) t⟩
    · exact t.elim
  · exact t.elim
theorem cd_abs : CallD K (fun xs H Q => ∃ i, xs = [.int i] ∧ Q (.int (if i < 0 then -i else i)) H) rAbsD := by
  intro O F H μ ds vs q Q hd rs t k
  unfold rAbsD at t
  split at t
  · rename_i i
    obtain ⟨v, rfl, h1⟩ := repL1 rs
    obtain rfl : v = .int i := h1
    exact ⟨i, rfl, k F H μ _ _ (Ext.refl F H) hd rep_int t⟩
  · exact t.elim
theorem cd_max2 : CallD K (fun xs H Q => ∃ i j, xs = [.int i, .int j] ∧ Q (.int (if j > i then j else i)) H) rMax2D := by
  intro O F H μ ds vs q Q hd rs t k
  unfold rMax2D at t
  split at t
  · rename_i i j
    obtain ⟨v, w, rfl, h1, h2⟩ := repL2 rs
    obtain rfl : v = .int i := h1
    obtain rfl : w = .int j := h2
    exact ⟨i, j, rfl, k F H μ _ _ (Ext.refl F H) hd rep_int t⟩
  · exact t.elim
theorem cd_min2 : CallD K (fun xs H Q => ∃ i j, xs = [.int i, .int j] ∧ Q (.int (if j < i then j else i)) H) rMin2D := by
  intro O F H μ ds vs q Q hd rs t k
  unfold rMin2D at t
  split at t
  · rename_i i j
    obtain ⟨v, w, rfl, h1, h2⟩ := repL2 rs
    obtain rfl : v = .int i := h1
    obtain rfl : w = .int j := h2
    exact ⟨i, j, rfl, k F H μ _ _ (Ext.refl F H) hd rep_int t⟩
  · exact t.elim
theorem cd_list : CallD K (fun xs H Q => ∃ p ys, xs = [.ref p] ∧ (SqL K H p ys ∨ SqT K H p ys) ∧ ∀ l, H l = none → Q (.ref l) (upd H l (.lst ys))) rListD := by
  intro O F H μ ds vs q Q hd rs t k
  unfold rListD at t
  split at t
  · rename_i d
    obtain ⟨v, rfl, h1⟩ := repL1 rs
    split at t
    · rename_i l e
      obtain ⟨a, us, rfl, h2, h3⟩ := seq_sq hd h1 e
      exact ⟨a, us, rfl, h2, fun p hp => k _ _ μ (.lst l) (.ref p) (ext_newF hd hp) (hd.newF hp) ⟨p, us, rfl, ⟨.inr rfl, upd_same⟩, h3.ext (ext_newF hd hp)⟩ t⟩
    · exact t.elim
  · exact t.elim
theorem cd_listM : CallD K (fun xs H Q => ∃ p ys, xs = [.ref p] ∧ (SqL K H p ys ∨ SqT K H p ys) ∧ ∀ l, H l = none → Q (.ref l) (upd H l (.lst ys))) rListM := by
  intro O F H μ ds vs q Q hd rs t k
  unfold rListM at t
  split at t
  · rename_i d
    obtain ⟨v, rfl, h1⟩ := repL1 rs
    split at t
    · rename_i l e
      obtain ⟨a, us, rfl, h2, h3⟩ := seq_sq hd h1 e
      exact ⟨a, us, rfl, h2, fun p hp => k _ _ _ (.adr p) (.ref p) (ext_new hd hp) (hd.newM (m := .lst l) hp ⟨us, upd_same, h3.ext (ext_new hd hp)⟩) rfl (t p (hd.free hp))⟩
    · exact t.elim
  · exact t.elim
theorem cd_tuple : CallD K (fun xs H Q => ∃ p ys, xs = [.ref p] ∧ ((SqL K H p ys ∧ ∀ l, H l = none → Q (.ref l) (upd H l (.tup ys))) ∨ (SqT K H p ys ∧ Q (.ref p) H))) rTupleD := by
  intro O F H μ ds vs q Q hd rs t k
  unfold rTupleD at t
  split at t
  · rename_i d
    obtain ⟨v, rfl, h1⟩ := repL1 rs
    have lst : ∀ l, lstOf μ d = some l → q (.tup l) μ → ∃ p ys, [v] = [V.ref p] ∧ ((SqL K H p ys ∧ ∀ l, H l = none → Q (.ref l) (upd H l (.tup ys))) ∨ (SqT K H p ys ∧ Q (.ref p) H)) := fun l e t => by
      obtain ⟨a, us, rfl, h2, h3⟩ := list_sq hd h1 e
      exact ⟨a, us, rfl, .inl ⟨h2, fun p hp => k _ _ μ (.tup l) (.ref p) (ext_newF hd hp) (hd.newF hp) ⟨p, us, rfl, .inl ⟨.inr rfl, .inl upd_same⟩, h3.ext (ext_newF hd hp)⟩ t⟩⟩
    split at t
    · rename_i l e
      cases d <;> try exact lst l e t
      obtain rfl := Option.some.inj e
      obtain ⟨a, us, rfl, h2, h3⟩ := h1
      exact ⟨a, us, rfl, .inr ⟨h2.sq, k F H μ (.tup _) _ (Ext.refl F H) hd ⟨a, us, rfl, h2, h3⟩ t⟩⟩
    · exact t.elim
  · exact t.elim
theorem cd_sum : CallD K (rSum K) rSumD := by
  intro O F H μ ds vs q Q hd rs t k
  unfold rSumD at t
  split at t
  · rename_i d
    obtain ⟨v, rfl, h1⟩ := repL1 rs
    obtain ⟨ns, e, t⟩ := t
    obtain ⟨a, us, rfl, h2, h3⟩ := list_sq hd h1 e
    obtain rfl := h3.ints
    exact ⟨a, ns, rfl, h2, k F H μ _ _ (Ext.refl F H) hd rep_int t⟩
  · exact t.elim
end

/-! ### l.append(x) -/
def dAppend (tl te : DTE) : DTE := fun δ μ q => tl δ μ fun x μ1 => match x with
  | .adr p => (∃ l, μ1 p = some (.lst l)) ∧ te δ μ1 fun d μ2 => ∃ l, μ2 p = some (.lst l) ∧ l.length < sizeLine ∧ q .non (updM μ2 p (.lst (l ++ [d])))
  | _ => False
section
variable {O : Org} {X : Cx} {o e : Expr} {tl te : DTE} {pos apos : Pos}
theorem de_append (h : PE X (.Call (.Attribute o "append" apos) [e] [] pos) (tBM X.K "list" rAppend (LE X.K O tl) (tCons (LE X.K O te) tNil))) : DE O X (.Call (.Attribute o "append" apos) [e] [] pos) (dAppend tl te) :=
  pe_weak h fun σ H Q ⟨F, δ, μ, q, hd, rs, t, k⟩ => ⟨F, δ, μ, _, hd, rs, t, fun F1 H1 μ1 x v e1 hd1 r1 t1 => by
    cases x <;> first | exact False.elim t1 | skip
    rename_i p
    obtain rfl : v = .ref p := r1
    obtain ⟨⟨l0, hm⟩, t1⟩ := t1
    obtain ⟨_, vs, h1, h2⟩ := hd1.own p _ hm
    refine ⟨.inl ⟨rfl, vs, SqL.of h1⟩, F1, δ, μ1, _, hd1, rs.ext e1, t1, fun F2 H2 μ2 d u e2 hd2 r2 ⟨l, hm2, hl, t2⟩ => ?_⟩
    obtain ⟨_, ws, h3, h4⟩ := hd2.own p _ hm2
    have ex := ext_set (o := HO.lst (ws ++ [u])) hd2 hm2
    exact ⟨p, ws, u, rfl, rfl, h3, by rw [← h4.length]; exact hl, k F2 _ _ .non .non ((e1.trans e2).trans ex) (hd2.set (m' := .lst (l ++ [d])) hm2 ⟨_, upd_same, (h4.ext ex).append (.cons (r2.ext ex) RepL.nil)⟩) rfl t2⟩⟩
end

/-! ### the law's own end -/
def spLawD : DSp := fun ds _ q _ => ∃ ns : List Int, ds = [.rol (ns.map D.int)] ∧ ns.length ≤ 63 ∧ ∀ μ', q (.bl true) μ'
theorem repL_ints {K : PySem.W.Frag} {F : Zo} {H : Hp} : ∀ ns : List Int, RepL K F H (ns.map D.int) (ns.map V.int) := RepL.of_ints
/-- the state at the law's call: only the script may be tracked -/
theorem law_state {K : PySem.W.Frag} {H : Hp} {a : Addr} {ns : List Int} (h : H a = none ∧ (∀ H', SqL K H' a (ns.map V.int)) ∨ Rd H a (.lst (ns.map V.int)) ∧ H a ≠ none) :
    ∃ F : Zo, Hd K ⟨F, H⟩ F H (fun _ => none) ∧ RepL K F H [.rol (ns.map D.int)] [.ref a] := by
  rcases h with ⟨h0, h⟩ | ⟨h, h0⟩
  · exact ⟨⟨fun _ => False, fun _ => False, fun _ z => z⟩, ⟨Ext.refl _ _, fun _ z => z.elim, fun _ _ z => nomatch z⟩, .cons ⟨a, _, rfl, .inr h, RepL.of_ints ns⟩ RepL.nil⟩
  · refine ⟨⟨fun b => b = a, fun b => b = a, fun _ z => z⟩, ⟨Ext.refl _ _, fun b z => ?_, fun _ _ z => nomatch z⟩, .cons ⟨a, _, rfl, .inl ⟨rfl, h⟩, RepL.of_ints ns⟩ RepL.nil⟩
    have z : b = a := z
    rw [z]; exact h0
theorem lawG_call {P : Program} {w : World} {K : PySem.W.Frag} {mg mb : Str → Option Value} {k : Nat} {fa a : Addr} {fd : FuncData} {x : Str} {s1 : Shared} {vs : List Value} {ns : List Int}
    (inK : K.In s1.heap) (glob : s1.heap.Ns mainGlobals mg) (blt : s1.heap.Ns builtinsNs mb) (boot : ∀ x : Str, x ≠ "__name__" → mb x = bootBuiltins x) (nolim : s1.heap.NoLimit) (nogen : s1.gens = #[])
    (obj : s1.heap.get? a = some { cls := .type "list", data := .seq vs.toArray }) (hints : IntsAre vs ns) (len : ns.length ≤ 63) (room : Room k callerA)
    (F : ∀ base : Heap, K.In base → base.Ns mainGlobals mg → FnG P w K mg base k fa fd [x] (LSp K spLawD)) (bind : ∀ (s : Shared) (u : Value), BindsTo s fd ⟨[u], []⟩ [(x, u)]) :
    codeAny (model P w) callerA (.call (.ref fa) ⟨[.ref a], []⟩) (fun r s' => r = .ok (.ret (.bool true)) ∧ OldK s1.heap s'.heap ∧ s'.os = s1.os ∧ AllBare s'.gens) s1 := by
  have rel := vals_ints hints
  have lenV := hints.length
  have line : ns.length ≤ sizeLine := Nat.le_trans len (by decide)
  -- H tracks the script alone, or nothing
  have go : ∀ H : Hp, (∀ b, H b ≠ none → b = a) → HOk P w H s1.heap → (H a ≠ none → K.lookup a = none ∧ ∃ o xs, H a = some (.frz o (.lst xs))) →
      (H a = none ∧ (∀ H', SqL K H' a (ns.map V.int)) ∨ Rd H a (.lst (ns.map V.int)) ∧ H a ≠ none) →
      codeAny (model P w) callerA (.call (.ref fa) ⟨[.ref a], []⟩) (fun r s' => r = .ok (.ret (.bool true)) ∧ OldK s1.heap s'.heap ∧ s'.os = s1.os ∧ AllBare s'.gens) s1 := by
    intro H only hok trk st
    have keep : ∀ {b : Addr} {o : Obj}, s1.heap.get? b = some o → b ≠ a ∨ H a = none → (hidT s1.heap H).get? b = some o := fun {b o} e z => hidT_get e <| by
      cases q : H b with
      | none => rfl
      | some u =>
        have hb := only b (by rw [q]; simp)
        rcases z with z | z
        · exact absurd hb z
        · rw [hb, z] at q; cases q
    have dicts : ∀ {b : Addr} {m : Str → Option Value}, s1.heap.Ns b m → (hidT s1.heap H).Ns b m := by
      rintro b m ⟨o, es, ep, e, d, r⟩
      refine ⟨o, es, ep, keep e (.inl fun z => ?_), d, r⟩
      rw [z, obj] at e
      cases e
      cases (show Data.seq vs.toArray _ = Data.dict es ep from d)
    have inB : K.In (hidT s1.heap H) := fun b o e => keep (inK b o e) <| by
      by_cases z : H a = none
      · exact .inr z
      · refine .inl fun h => ?_
        rw [h, (trk z).1] at e; cases e
    have md : Mod K mg (hidT s1.heap H) := ⟨inB, dicts glob, ⟨mb, dicts blt, boot⟩, let ⟨mc, h1, h2⟩ := nolim; ⟨mc, dicts h1, h2⟩⟩
    have none_mem : ∀ b : Addr, b ∉ (frs ([] : List Env)) := fun b z => by
      have z : b ∈ ([] : List Addr) := z
      simp at z
    have e0 : Env0 P w K mg (hidT s1.heap H) callerA [] s1 H := ⟨rfl, md, fun b o e => of_hidT e, Nat.le_of_eq (hidT_size _ _), trivial, fun b hb => absurd hb (none_mem b), hok, .of_eq nogen⟩
    obtain ⟨F0, hd0, r0⟩ := law_state st
    refine codeAny_mono ((F _ inB (dicts glob)).run callerA [] s1 H ⟨[.ref a], []⟩ [.ref a] [.ref a] (fun v _ => v = .bl true) (fun _ _ _ => False) room rfl e0 (bind s1 (.ref a)) (.cons rfl .nil)
      ⟨F0, fun _ => none, _, fun d _ => d = .bl true, eN, hd0, r0, ⟨ns, rfl, len, fun _ => rfl⟩, fun F' H' μ' d v _ r q => by subst q; exact r, fun cls dd H' ⟨_, _, _, _, _, _, _, _, _, _, _, z⟩ => z⟩) ?_
    intro r s2 h
    match r, h with
    | .error e, ⟨_, _, _, _, _, _, _, _, _, _, _, _, z⟩ => exact z.elim
    | .ok (.ret u), ⟨v, H', os, bare, un, hok', r', q⟩ =>
      have q : v = .bl true := q
      subst q
      obtain rfl : u = Value.bool true := r'
      refine ⟨rfl, OldK.of_keep fun b o e => ?_, os, bare⟩
      cases q : H b with
      | none => exact un.keep b o e q (none_mem b) (by simp)
      | some u =>
        have hb := only b (by rw [q]; simp)
        subst hb
        obtain ⟨_, ob, xs, z⟩ := trk (by rw [q]; simp)
        obtain ⟨e1, _⟩ := hok b _ z
        obtain ⟨e2, _⟩ := hok' b _ (un.frzs b ob _ z)
        rw [e] at e1
        cases e1
        exact e2
  cases hk : K.lookup a with
  | some o =>
    have e := inK a o hk
    rw [obj] at e
    cases e
    exact go (fun _ => none) (fun b z => absurd rfl z) (fun b u z => nomatch z) (fun z => absurd rfl z) (.inl ⟨rfl, fun H' => .inr ⟨_, vs.toArray, _, hk, rfl, rfl, rfl, by rw [List.size_toArray, lenV]; exact line, by simpa using rel⟩⟩)
  | none =>
    have at_ : (fun b => if b = a then some (HO.frz { cls := .type "list", data := .seq vs.toArray } (.lst (ns.map V.int))) else none) a = some (HO.frz { cls := .type "list", data := .seq vs.toArray } (.lst (ns.map V.int))) := if_pos rfl
    refine go (fun b => if b = a then some (.frz { cls := .type "list", data := .seq vs.toArray } (.lst (ns.map V.int))) else none) (fun b z => ?_) (fun b u z => ?_) (fun _ => ⟨hk, _, _, at_⟩) (.inr ⟨.inr ⟨_, at_⟩, by simp⟩)
    · by_cases hb : b = a
      · exact hb
      · exact absurd (if_neg hb) z
    · by_cases hb : b = a
      · subst hb
        have z := at_.symm.trans z
        cases z
        exact ⟨obj, by rw [List.length_map]; exact line, vs, _, rel, obj⟩
      · have z : (if b = a then some (HO.frz { cls := .type "list", data := .seq vs.toArray } (.lst (ns.map V.int))) else none) = some u := z
        rw [if_neg hb] at z
        cases z
/-- the goal that k_head leaves (case hc), from the law's promise over data -/
theorem walkD {l : PySem.W.OpenLaw} {k : Nat} {q : Program} {loose : List Str} {XP : (Str → Option Value) → Heap → Prop} {YP : World → Heap → Prop} {d : DefRec} {K : Params → PySem.W.Frag} {x : Str}
    (most : l.most = some 63) (nodef : d.params.defaults = []) (room : Room k callerA) (inK : ∀ (w : World) (h : Heap), YP w h → (K w.params).In h)
    (F : ∀ (w : World) (mg : Str → Option Value) (fa : Addr) (h : Heap), (K w.params).In h → h.Ns mainGlobals mg → mg d.name = some (.ref fa) →
      ∃ fd : FuncData, (∀ (s : Shared) (u : Value), BindsTo s fd ⟨[u], []⟩ [(x, u)]) ∧
        ∀ base : Heap, (K w.params).In base → base.Ns mainGlobals mg → FnG l.prog w (K w.params) mg base k fa fd [x] (LSp (K w.params) spLawD)) :
    PySem.W.WalkO q loose XP YP l.row.toRowW d [] (fun f vs => PySem.call f vs) := by
  refine Att.attach_call most nodef ?_
  intro w s0 s1 mg mb fa o pm cd doc a vs ns G Y ho hdo hcd hmg hobj hints hlen hgen
  obtain ⟨fd, bnd, hF⟩ := F w mg fa _ (inK w _ Y) G.T.g hmg
  exact lawG_call (inK w _ Y) G.T.g G.T.b G.T.builtins G.T.nolimit hgen hobj hints hlen room hF bnd
end DL

namespace DL
open PySem L2 PySem.Spec PyProof.Rows
/-! ### a def by its name -/
structure Fd (P : Program) (w : World) (K : PySem.W.Frag) (mg : Str → Option Value) (base : Heap) (x : Str) (k : Nat) (ps : List Str) (c : DSp) : Prop where
  ex : ∃ (f : Addr) (fd : FuncData), FnG P w K mg base k f fd ps (LSp K c) ∧ mg x = some (.ref f) ∧ PySem.W.keepIn K (.ref f) = true ∧ Binds K fd ps []
section
variable {O : Org} {X : Cx} {j : Nat} {ps : List Str} {c : DSp} {e : DX} {x : Str} {p pos : Pos} {a : Expr} {es : List Expr} {t : DTA}
theorem de_callF (h : Fd X.prog X.w X.K X.mg X.base x j ps c) (hr : Room j X.A) (hgd : X.A.guards = some []) (hx : Passes (CX X.prog X.w) X (LX X.K O e)) (hg : Gl X x) (ha : DA O X (a :: es) t) (hdb : (x == ("__debug__" : Str)) = false := by decide)
    (he : starEach (a :: es) X.env = (false, eval a X.env) :: starEach es X.env := by rfl) (hpl : (backTo pos (starEach es X.env)).any (·.1) = false := by rfl) : DE O X (.Call (.Name x p) (a :: es) [] pos) (dCall c e [] t) := by
  obtain ⟨f, fd, F, hm, hk, hb⟩ := h.ex
  exact de_call F hr hgd hg hm hk hb .nil (fun _ _ => RepL.nil) hx ha hdb he hpl
theorem de_callF0 (h : Fd X.prog X.w X.K X.mg X.base x j ps c) (hr : Room j X.A) (hgd : X.A.guards = some []) (hx : Passes (CX X.prog X.w) X (LX X.K O e)) (hg : Gl X x) (hdb : (x == ("__debug__" : Str)) = false := by decide) : DE O X (.Call (.Name x p) [] [] pos) (dCall c e [] dNil) := by
  obtain ⟨f, fd, F, hm, hk, hb⟩ := h.ex
  exact de_call0 F hr hgd hg hm hk hb .nil (fun _ _ => RepL.nil) hx hdb
/-- a name that is read for the last time: what it names is frozen -/
def dVarF (i : Nat) : DTE := fun δ μ q => match δ[i]? with
  | some (some (.adr p)) => match μ p with
    | some (.lst l) => q (.lst l) (delM μ p)
    | _ => False
  | some (some d) => q d μ
  | _ => False
theorem dvF (i : Nat) {x : Str} {pos : Pos} (hN : X.N[i]? = some x := by rfl) (hv : Vis X.env.scope x := by first | exact Or.inl rfl | exact Or.inr (Or.inl rfl) | exact Or.inr (Or.inr rfl)) (hd : (x == ("__debug__" : Str)) = false := by decide)
    (hcd : (x == ("__classdict__" : Str)) = false := by decide) : DE O X (.Name x pos) (dVarF i) := pe_weak (pe_var hN hv hd hcd) fun σ H Q ⟨F, δ, μ, q, hd, rs, t, k⟩ => by
  unfold dVarF at t
  split at t
  · rename_i p e
    obtain ⟨v, h1, h2⟩ := rs.at_ i _ e
    obtain rfl : v = .ref p := h2
    split at t
    · rename_i l hm
      obtain ⟨_, vs, h3, h4⟩ := hd.own p _ hm
      obtain ⟨hf, ex⟩ := hd.frz hm
      exact ⟨_, h1, k _ H _ (.lst l) (.ref p) ex hf ⟨p, vs, rfl, ⟨.inr rfl, h3⟩, h4.ext ex⟩ t⟩
    · exact t.elim
  · rename_i d _ e
    obtain ⟨v, h1, h2⟩ := rs.at_ i d e
    exact ⟨v, h1, k F H μ d v (Ext.refl F H) hd h2 t⟩
  · exact t.elim
/-- a built-in function of a module that is imported by its name (gcd) -/
theorem de_callFun {id : String} {r : List V → Hp → VK → Prop} {rd : DC2} (h : PE X (.Call (.Name x p) (a :: es) [] pos) (tCB r (LA X.K O t))) (hd : CallD X.K r rd) : DE O X (.Call (.Name x p) (a :: es) [] pos) (dCB rd t) := pe_weak h (lcb hd)
end
end DL

set_option Elab.async false
set_option linter.all false
set_option maxRecDepth 100000
set_option maxHeartbeats 2000000
namespace PySem
namespace ErrX
open PySem.W PySem.Calls PyProof.Rows PySem.HandSPX
/-! ### the text of __init__ -/
def iA (p1 p2 : Pos) : Arguments := { posonlyargs := [], args := [{ arg := "self", annotation := none, pos := p1 }, { arg := "value", annotation := none, pos := p2 }], vararg := none, kwonlyargs := [], kw_defaults := [], kwarg := none, defaults := [] }
def iB (q1 q2 q3 q4 : Pos) : List Stmt := [.Assign [.Attribute (.Name "self" q1) "value" q2] (.Name "value" q3) q4]
def iS : Scope := { kind := .function, names := [(PySem.Str.ofString "self", .local), (PySem.Str.ofString "value", .local)], isGenerator := false, isCoroutine := false, more := [] }
/-- what the written part says of Low, at C, and of its __init__, at fI -/
structure ErrTxt (K : Frag) (mg : Str → Option Value) (nm : Str) (C fI : Addr) : Prop where
  gC : mg nm = some (.ref C)
  cls : ∃ nm q N bs bm sn sub ab col dd k0 k1 k2 k3 k5, K.lookup C = some (excClassObj nm q C N bs bm true sn sub ab col dd k0 k1 k2 k3 k5 "ValueError.__new__") ∧ refsVE bm = true
  sa : findIn K (.ref C) "__setattr__" = some (some (.builtin "object.__setattr__"))
  ga : findIn K (.ref C) "__getattribute__" = some (some (.builtin "BaseException.__getattribute__"))
  gg : findIn K (.ref C) "__getattr__" = some none
  noN : findIn K (.ref C) "value" = some none
  iC : findIn K (.ref C) "__init__" = some (some (.ref fI))
  tC : typeIn K (.ref fI) = some (.type "function")
  kC : keepIn K (.ref C) = true
  exC : subIn K (.ref C) (.type "BaseException") = some true
  tyC : typeIn K (.ref C) = some (.type "type")
  hdC : hasDictIn K C = true
  te : exmOne K (.ref C) (.ref C) = some true
  fn : ∃ (oc : Value) (od : Option Addr) (doc pm : Value) (an : Option Addr) (cdv ct : Value) (osl : Array (Option Value)) (p1 p2 q1 q2 q3 q4 : Pos),
    K.lookup fI = some ⟨oc, od, .func (fnOf "__init__" "StrideError.__init__" (iA p1 p2) (iB q1 q2 q3 q4) iS .none .none doc pm an cdv ct), osl⟩ ∧ codeIn K cdv "StrideError.__init__" = true
theorem one_size (v : Value) : [v].length ≤ sizeLine := by
  rw [sizeLine_eq]
  exact (by decide : 1 ≤ 16777216)
theorem kept_but {K : Frag} {h h' : Heap} {x : Addr} (X : K.In h) (hx : K.lookup x = none) (k : ∀ b o, b ≠ x → h.get? b = some o → h'.get? b = some o) : K.In h' := fun a o e =>
  k a o (fun z => by rw [z, hx] at e; cases e) (X a o e)
theorem ldC {M : Model} {s : Shared} {name : Str} {scope : Scope} {L a : Addr} {cd : Value} {m : Str → Option Value} {x : Str} {pos : Pos} {v : Value} {Q : Value → Shared → Prop} {A : Around} {E : Value → Shared → Prop} (hn : s.heap.Ns L m) (hv : m x = some v) (h : Q v s)
    (hk : scope.kind = .function := by rfl) (hl : (envOfC name scope L a cd).kindOf x = some .local := by rfl) (hd : (x == ("__debug__" : Str)) = false := by decide) :
    wpAny M A (eval (.Name x pos) (envOfC name scope L a cd)) Q E s := wpAny_Name (wpAny_loadName_local hk hl hn hv h) hd
/-- what __init__ leaves of a fresh exception at x -/
structure InitEnd (h h' : Heap) (x C dx t1 : Addr) (v : Value) : Prop where
  keep : ∀ b o, b ≠ x → h.get? b = some o → h'.get? b = some o
  obj : h'.get? x = some { cls := .ref C, dict := some dx, data := .fields #[.ref t1, .none, .none, .none, .bool false, .none] }
  dbig : h.objs.size ≤ dx
  dne : dx ≠ x
  ns : h'.Ns1 dx (fun y => if y = "value" then some v else none)
/-- a made Low -/
structure OwnMade (h h' : Heap) (e C d : Addr) (v : Value) : Prop where
  keep : ∀ b o, h.get? b = some o → h'.get? b = some o
  new : h.objs.size ≤ e
  obj : ∃ oe vs, h'.get? e = some oe ∧ oe.cls = .ref C ∧ oe.dict = some d ∧ oe.data = .fields vs ∧ vs[1]? = some .none
  dbig : h.objs.size ≤ d
  dne : d ≠ e
  ns : h'.Ns1 d (fun y => if y = "value" then some v else none)
section
variable {prog : Program} {w : World} {A : Around} {E : Value → Shared → Prop} {R : Result → Shared → Prop} {s : Shared} {K : Frag} {mg : Str → Option Value} {nn : Str} {C fI : Addr}
theorem err_init (T : ErrTxt K mg nn C fI) {x t0 : Addr} {v : Value} (X : K.In s.heap) (hlim : s.heap.NoLimit) (hx : s.heap.get? x = some (excO C t0)) (hnx : K.lookup x = none) (hroom : A.depth < recursionLimit)
    (hq : ∀ h' tk dx, InitEnd s.heap h' x C dx t0 v → R (.ok (.ret .none)) { s with heap := h', toks := tk }) :
    codeAny (model prog w) A (.call (.ref fI) ⟨[.ref x, v], []⟩) R s := by
  obtain ⟨oc, od, doc, pm, an, cdv, ct, osl, p1, p2, q1, q2, q3, q4, ho, hcd⟩ := T.fn
  obtain ⟨nm, q, N, bs, bm, sn, sub, ab, col, dd, k0, k1, k2, k3, k5, hC, hbm⟩ := T.cls
  have hcl : clsIn K C = some { name := nm, bases := bs, mro := .ref C :: bm, ns := N, qualname := q, hasDict := true, slotNames := sn, subclasses := sub, abstract := ab, collection := col, hasDel := false } := by unfold clsIn; rw [hC] <;> rfl
  refine Att.call_fn (binds := [("self", .ref x), ("value", v)]) X hlim ho hcd hroom (BindsTo.of_eq (by first | rfl | with_unfolding_all rfl)) (by first | rfl | decide | with_unfolding_all rfl) (fun s₁ IC => ?_) rfl rfl rfl
  obtain ⟨h₁, tk₁, rfl⟩ := IC.toInCall.same
  have k : ∀ b o, s.heap.get? b = some o → h₁.get? b = some o := IC.toInCall.keep
  have hn := IC.toInCall.ns
  have hxL : s.heap.objs.size ≠ x := Nat.ne_of_gt (Heap.lt_size hx)
  have X₁ : K.In h₁ := X.keeps k
  have hx₁ := k _ _ hx
  -- self.by = by
  show wpAny _ _ (execs _ _) _ _ _
  refine wpAny_execs_cons (plainObj_wpAny_Assign_Attribute ?_)
  refine ldC (v := v) hn (by first | rfl | with_unfolding_all rfl | kernel_rfl) (ldC (v := .ref x) hn (by first | rfl | with_unfolding_all rfl | kernel_rfl) ?_)
  refine set_plain X₁ (ox := excO C t0) (od := none) ⟨hx₁, rfl, rfl, trivial⟩ T.sa ?_
  refine exc_osa X₁ hx₁ hcl (show refsVE (.ref C :: bm) = true from hbm) rfl T.noN (fun h₃ tk₃ dx k₃ dn dne hx₃ hn₃ => ?_)
  show wpAny _ _ (execs _ _) _ _ _
  have z : s.heap.objs.size < h₁.objs.size := hn.lt
  exact wpAny_execs_nil (hq h₃ tk₃ dx ⟨fun b o hb e => k₃ b o hb (k b o e), hx₃, Nat.le_of_lt (Nat.lt_of_lt_of_le z dn), dne, hn₃⟩)
theorem err_made (T : ErrTxt K mg nn C fI) {v : Value} (X : K.In s.heap) (hlim : s.heap.NoLimit) (hroom : A.depth + 1 < recursionLimit)
    (hq : ∀ h' tk e d, OwnMade s.heap h' e C d v → R (.ok (.ret (.ref e))) { s with heap := h', toks := tk }) :
    codeAny (model prog w) A (.call (.ref C) ⟨[v], []⟩) R s := by
  obtain ⟨nm, q, N, bs, bm, sn, sub, ab, col, dd, k0, k1, k2, k3, k5, hC, hbm⟩ := T.cls
  obtain ⟨hp, g, dr, tk, os⟩ := s
  have k : ∀ b o, hp.get? b = some o → ((hp.push (kdv_tup [v])).push (excO C hp.objs.size)).get? b = some o := fun b o e => Heap.get?_push_of_some _ (Heap.get?_push_of_some _ e)
  have hget : ((hp.push (kdv_tup [v])).push (excO C hp.objs.size)).get? (hp.objs.size + 1) = some (excO C hp.objs.size) := by heap_get
  have hnx : K.lookup (hp.objs.size + 1) = none := by
    cases e : K.lookup (hp.objs.size + 1) with
    | none => rfl
    | some o =>
      have z : hp.get? (hp.objs.size + 1) = some o := X _ _ e
      exact absurd (Nat.lt_of_succ_lt (Heap.lt_size z)) (Nat.lt_irrefl _)
  refine call_own F.excBase_ValueError (fun X => refsVE_contains X bm hbm) (X _ _ hC) (looks_findIn X T.iC) (fun self => bind_fn X self T.tC) (one_size v) ?_
  refine err_init (s := ⟨(hp.push (kdv_tup [v])).push (excO C hp.objs.size), g, dr, tk, os⟩) T (X.keeps k) (hlim.keeps k) hget hnx ?_ fun h' tk' dx ⟨k', hx, dn, dne, hns⟩ => ?_
  · show A.depth + 1 < recursionLimit
    exact hroom
  · have old : ∀ b o, hp.get? b = some o → h'.get? b = some o := fun b o e => k' b o (Nat.ne_of_lt (Nat.lt_succ_of_lt (Heap.lt_size e))) (k b o e)
    have z : hp.objs.size + 1 + 1 ≤ dx := by
      first
        | (simpa only [Heap.size_push] using dn)
        | exact dn
        | (have q := dn; rw [Heap.size_push, Heap.size_push] at q; exact q)
    exact ⟨rfl, hq h' tk' (hp.objs.size + 1) dx ⟨old, Nat.le_succ _, ⟨_, _, hx, rfl, rfl, rfl, rfl⟩, Nat.le_trans (Nat.le_trans (Nat.le_succ _) (Nat.le_succ _)) z, dne, hns⟩⟩
end
end ErrX
end PySem
namespace L2
open PySem PySem.Spec PyProof.Rows
theorem relO_err {v : V} {v' : Value} (r : RelV v v') (f : Str) : RelO (List.lookup f [(("value" : Str), v)]) (if f = "value" then some v' else none) := by
  by_cases hw : f = "value"
  · subst hw
    rw [if_pos rfl]
    have q : List.lookup ("value" : Str) [(("value" : Str), v)] = some v := by simp [List.lookup]
    rw [q]
    exact r
  · rw [if_neg hw]
    have qw : (f == ("value" : Str)) = false := by simpa using hw
    have q2 : List.lookup f [(("value" : Str), v)] = none := by simp [List.lookup, qw]
    rw [q2]
    trivial
section
variable {X : Cx} {nn : Str} {C fI : Addr}
/-- Low(e) -/
def tMkErr (C : Addr) (ta : TA) : St → Hp → XK → Prop := fun σ H Q => ta σ H fun vs H1 => ∃ v, vs = [v] ∧ ∀ d, H1 d = none → Q (.ref C) (some d) (upd H1 d (.xd [(("value" : Str), v)]))
theorem pmk_err {a : Expr} {ta : TA} {p pos : Pos} {k : Nat} (T : PySem.ErrX.ErrTxt X.K X.mg nn C fI) (hr : Room k X.A) (ha : PA X [a] ta) (hg : Gl X nn := by rfl) (hdb : (nn == ("__debug__" : Str)) = false := by decide)
    (he : starEach (a :: []) X.env = (false, eval a X.env) :: starEach [] X.env := by rfl) (hpl : (backTo pos (starEach [] X.env)).any (·.1) = false := by rfl) :
    PMk X (.Call (.Name nn p) [a] [] pos) (tMkErr C ta) := by
  intro pins s σ H Q I h
  refine wpAny_Call_Name_kw (ld_glob I hg T.gC ?_ hdb)
  refine PySem.W.callWith_K (h₀ := X.base) I.ok.mod.kin T.kC (thn (ha.run pos pins s σ H _ I h) fun us s1 hh => ?_) he hpl
  obtain ⟨vs, H1, I1, r1, v, ev, q1⟩ := hh
  subst ev
  refine ⟨I1.kIn, ?_⟩
  cases r1 with
  | cons rv rn =>
    rename_i v' us'
    cases rn
    show wpAny _ _ (call (.ref C) [v']) _ _ _
    have hlim := I1.nolimit
    obtain ⟨hp, g, dr, tk, os⟩ := s1
    refine wpAny_call (PySem.ErrX.err_made T I1.kIn hlim (by have := hr.dp; omega) fun h' tk' e d M => ?_)
    show MkP X pins σ Q (.ref e) ⟨h', g, dr, tk', os⟩
    obtain ⟨oe, fv, hoe, hc, hd, hdat, h1⟩ := M.obj
    have hns := M.ns
    obtain ⟨G', g1, g2⟩ := restrict h' fun b => decide (b ≠ e)
    have gk : ∀ b, b ≠ e → G'.get? b = h'.get? b := fun b hb => g1 b (decide_eq_true hb)
    have ge : G'.get? e = none := g2 e (by simp)
    have old : ∀ b o, hp.get? b = some o → G'.get? b = some o := fun b o q => (gk b (Nat.ne_of_lt (Nat.lt_of_lt_of_le (Heap.lt_size q) M.new))).trans (M.keep b o q)
    have ob : ObjOk X.prog X.w (upd H1 d (.xd [(("value" : Str), v)])) G' d (.xd [(("value" : Str), v)]) :=
      ⟨_, hns.at (fun o q => (gk d M.dne).trans q), fun f => relO_err rv f⟩
    have J : Inv X pins σ (upd H1 d (.xd [(("value" : Str), v)])) ⟨G', g, dr, tk', os⟩ := I1.laid (t' := tk') old M.dbig ob
    refine ⟨e, oe, fv, ⟨G', g, dr, tk', os⟩, _, .ref C, some d, rfl, J, fun b o q => ?_, ge, hoe, ⟨hc, hd⟩, hdat, h1, ?_, rfl, I1.bare, raises_own T.exC T.tyC, q1 d (I1.hok.fresh M.dbig)⟩
    · by_cases hb : b = e
      · have q' : G'.get? b = some o := q
        rw [hb, ge] at q'; cases q'
      · exact (gk b hb).symm.trans q
    · rw [upd_ne (Ne.symm M.dne)]
      exact I1.hok.fresh M.new
/-- raise Low(e) -/
def tRaiseErr (C : Addr) (W : WX) (ta : TA) : TS := fun _ σ H => tMkErr C ta σ H fun cls d H' => W cls d σ H'
theorem ps_raiseErr {a : Expr} {ta : TA} {W : WX} {p pos pos2 : Pos} {k : Nat} (hc : X.calm = true) (T : PySem.ErrX.ErrTxt X.K X.mg nn C fI) (hr : Room k X.A) (tk : Takes X W) (ha : PA X [a] ta) (hg : Gl X nn := by rfl) (hdb : (nn == ("__debug__" : Str)) = false := by decide)
    (he : starEach (a :: []) X.env = (false, eval a X.env) :: starEach [] X.env := by rfl) (hpl : (backTo pos (starEach [] X.env)).any (·.1) = false := by rfl) :
    PS X (.Raise (some (.Call (.Name nn p) [a] [] pos)) none pos2) (tRaiseErr C W ta) := ps_raise hc tk (pmk_err T hr ha hg hdb he hpl)
/-- low.by, low the exception that the suite holds (at a; its class cls, its dict d) -/
def tByErr (C : Addr) (a : Addr) (cls : Value) (d : Option Addr) (te : TE) : TE := fun σ H Q => te σ H fun x H1 => x = .ref a ∧ cls = .ref C ∧ ∃ (dd : Addr) (v : V), d = some dd ∧ H1 dd = some (.xd [(("value" : Str), v)]) ∧ Q v H1
theorem pe_byErr {a : Addr} {oe : Obj} {cls : Value} {d : Option Addr} {pn : List (Addr × Obj)} {e : Expr} {te : TE} {pos : Pos} (T : PySem.ErrX.ErrTxt X.K X.mg nn C fI) (hz : Zc cls d oe) (hf : ∃ vs, oe.data = .fields vs) (he : PE (X.suite a ((a, oe) :: pn)) e te)
    (hb : attributeBase e "value" X.env (eval e X.env) = eval e X.env := by rfl) :
    PE (X.suite a ((a, oe) :: pn)) (.Attribute e "value" pos) (tByErr C a cls d te) := by
  refine ⟨fun pins s σ H Q I h => ?_⟩
  refine attr_of hb (thn (he.run pins s σ H _ I h) fun u s1 hh => ?_)
  obtain ⟨x, H1, I1, rx, ex, ec, dd, v, ed, ea, q⟩ := hh
  subst ex
  obtain rfl : u = Value.ref a := rx
  subst ec
  subst ed
  obtain ⟨ha, _⟩ := I1.pin (a, oe) (List.mem_append_left _ List.mem_cons_self)
  obtain ⟨vs, hd⟩ := hf
  have hx : ObjOk X.prog X.w H1 s1.heap dd (.xd [(("value" : Str), v)]) := I1.hok dd _ ea
  obtain ⟨mA, hns, hr⟩ := hx
  obtain ⟨od, ho, hl⟩ := lookIn_ns hns
  have l : List.lookup ("value" : Str) [(("value" : Str), v)] = some v := by simp [List.lookup]
  obtain ⟨u, hu, ru⟩ := RelO.some_of (v := v) (o := mA "value") (by rw [← l]; exact hr "value")
  have J : PySem.W.InstAt s1.heap a oe C (some od) := ⟨ha, hz.1, by unfold PySem.W.notCls; rw [hd] <;> rfl, by rw [hz.2]; exact ho⟩
  exact HandSPX.exc_get I1.kIn J T.ga T.gg T.exC (PySem.W.findObj_own T.hdC T.noN rfl (by rw [hl, hu])) (handed_of ru) ⟨v, H1, I1.tok _, ru, q⟩
end
end L2


namespace DL
open PySem L2 PySem.Spec PyProof.Rows
/-- raise X(e), X an own error over StrideError -/
def dRaise (C : Addr) (te : DTE) (e : DX) : DTS := fun _ δ μ => te δ μ fun d μ1 => e C d μ1
theorem Hd.newN {K : PySem.W.Frag} {O : Org} {F : Zo} {H : Hp} {μ : Mu} {p : Addr} {o : HO} (h : Hd K O F H μ) (hp : H p = none) : Hd K O F (upd H p o) μ := by
  refine ⟨h.org.trans (ext_new h hp), fun a f => ?_, fun a m e => ?_⟩
  · have z : a ≠ p := fun z => h.nf hp (z ▸ f)
    rw [upd_ne z]; exact h.fr a f
  · have z : a ≠ p := fun z => by rw [z, h.free hp] at e; cases e
    exact ⟨(h.own a m e).1, (h.own a m e).2.ext (ext_new h hp) (upd_ne z)⟩
theorem ds_raise {O : Org} {X : Cx} {nn : Str} {C fI : Addr} {a : Expr} {te : DTE} {e : DX} {p pos pos2 : Pos} {k : Nat} (hc : X.calm = true) (T : PySem.ErrX.ErrTxt X.K X.mg nn C fI) (hr : Room k X.A) (tk : Takes X (fun cls d _ H2 => LX X.K O e cls d H2)) (ha : DE O X a te) (hg : Gl X nn := by rfl) (hdb : (nn == ("__debug__" : Str)) = false := by decide)
    (he : starEach (a :: []) X.env = (false, eval a X.env) :: starEach [] X.env := by rfl) (hpl : (backTo pos (starEach [] X.env)).any (·.1) = false := by rfl) :
    DSt O X (.Raise (some (.Call (.Name nn p) [a] [] pos)) none pos2) (dRaise C te e) :=
  ps_weak (ps_raiseErr hc T hr tk (pa_cons ha pa_nil he) hg hdb he hpl) fun Z σ H ⟨F, δ, μ, E, hd, rs, t, L⟩ =>
    ⟨F, δ, μ, _, hd, rs, t, fun F1 H1 μ1 d v e1 hd1 r1 t1 => ⟨v, rfl, fun b hb => ⟨C, b, v, d, F1, μ1, rfl, rfl, upd_same, hd1.newN hb, r1.ext (ext_new hd1 hb), t1⟩⟩⟩
end DL
namespace DL
open PySem L2
def rGcdD : DC2 := fun ds μ q => match ds with | [.int a, .int b] => q (.int ((Nat.gcd a.natAbs b.natAbs : Nat) : Int)) μ | _ => False
theorem cd_gcd {K : PySem.W.Frag} : CallD K rGcd rGcdD := by
  intro O F H μ ds vs q Q hd rs t k
  unfold rGcdD at t
  split at t
  · rename_i i j
    obtain ⟨v, w, rfl, h1, h2⟩ := repL2 rs
    obtain rfl : v = .int i := h1
    obtain rfl : w = .int j := h2
    exact ⟨i, j, rfl, k F H μ _ _ (Ext.refl F H) hd rep_int t⟩
  · exact t.elim
end DL
namespace DL
open PySem L2 PySem.Spec PyProof.Rows
theorem exm_self {K : PySem.W.Frag} {S : Addr} (h1 : PySem.W.subIn K (.ref S) (.type "BaseException") = some true) (h2 : PySem.W.isClsIn K S = true) (h3 : PySem.W.typeIn K (.ref S) = some (.type "type")) (h4 : PySem.W.subIn K (.ref S) (.ref S) = some true) :
    PySem.W.exmOne K (.ref S) (.ref S) = some true := by
  have e1 : (PySem.W.subIn K (.ref S) (.type "BaseException") == some true) = true := by rw [h1] <;> rfl
  have e2 : ((PySem.W.clsIn K S).isSome && PySem.W.typeIn K (.ref S) == some (.type "type")) = true := by
    have h2' : (PySem.W.clsIn K S).isSome = true := h2
    rw [h2', h3] <;> rfl
  show (if (PySem.W.subIn K (.ref S) (.type "BaseException") == some true) = true then (if ((PySem.W.clsIn K S).isSome && PySem.W.typeIn K (.ref S) == some (.type "type")) = true then PySem.W.subIn K (.ref S) (.ref S) else none) else none) = some true
  rw [if_pos e1, if_pos e2]
  exact h4
end DL
namespace DL
open PySem L2
theorem atI_lt {α : Type} {l : List α} {k : Nat} {x : α} (h : l[k]? = some x) : atI l ((k : Nat) : Int) = some x := atI_nat h
theorem ix0 {α : Type} (a : α) (l : List α) : atI (a :: l) 0 = some a := atI_lt (k := 0) rfl
theorem ix1 {α : Type} (a b : α) (l : List α) : atI (a :: b :: l) 1 = some b := atI_lt (k := 1) rfl
theorem ix2 {α : Type} (a b c : α) (l : List α) : atI (a :: b :: c :: l) 2 = some c := atI_lt (k := 2) rfl
theorem ix3 {α : Type} (a b c d : α) (l : List α) : atI (a :: b :: c :: d :: l) 3 = some d := atI_lt (k := 3) rfl
theorem ix4 {α : Type} (a b c d e : α) (l : List α) : atI (a :: b :: c :: d :: e :: l) 4 = some e := atI_lt (k := 4) rfl
theorem ix5 {α : Type} (a b c d e f : α) (l : List α) : atI (a :: b :: c :: d :: e :: f :: l) 5 = some f := atI_lt (k := 5) rfl
theorem ix6 {α : Type} (a b c d e f g : α) (l : List α) : atI (a :: b :: c :: d :: e :: f :: g :: l) 6 = some g := atI_lt (k := 6) rfl
theorem ix7 {α : Type} (a b c d e f g h : α) (l : List α) : atI (a :: b :: c :: d :: e :: f :: g :: h :: l) 7 = some h := atI_lt (k := 7) rfl
theorem ix8 {α : Type} (a b c d e f g h i : α) (l : List α) : atI (a :: b :: c :: d :: e :: f :: g :: h :: i :: l) 8 = some i := atI_lt (k := 8) rfl
theorem ix9 {α : Type} (a b c d e f g h i j : α) (l : List α) : atI (a :: b :: c :: d :: e :: f :: g :: h :: i :: j :: l) 9 = some j := atI_lt (k := 9) rfl
theorem ix10 {α : Type} (a b c d e f g h i j k : α) (l : List α) : atI (a :: b :: c :: d :: e :: f :: g :: h :: i :: j :: k :: l) 10 = some k := atI_lt (k := 10) rfl
end DL

set_option Elab.async false
set_option linter.all false
set_option maxRecDepth 100000
/-! DR: repr of data; x in l -/
namespace DL
open PySem L2 PySem.Spec PyProof.Rows
theorem dp_list {K : PySem.W.Frag} {H : Hp} {a : Addr} {d : PyData} (h : Dp K H (.ref a) d) : (∃ ds, d = .list ds) ∨ ∃ ds, d = .tuple ds := by
  cases h with
  | lst _ _ => exact .inl ⟨_, rfl⟩
  | tup _ _ => exact .inr ⟨_, rfl⟩
theorem call_reprD {X : Cx} (hg : X.A.guards = some []) (hu : X.A.units + 66 < cLine) :
    CallR X (.builtin "repr") (fun xs H Q => ∃ a d, xs = [.ref a] ∧ Dp X.K H (.ref a) d ∧ SeqAt.shaped d = true ∧ d.showable = true ∧ d.shown.length ≤ sizeLine ∧ Q (.str d.shown) H) := by
  intro pins s σ H xs us Q I r h
  obtain ⟨a, d, rfl, hd, sd, hs, hz, q⟩ := h
  obtain ⟨u, rfl, rx⟩ := vals1 r
  cases rx
  obtain ⟨as, r1⟩ := Dp.reads I d _ _ hd rfl
  have hc := SeqAt.canLay_of_shaped sd
  have hdep : d.depth ≤ 64 := by
    unfold SeqAt.shaped at sd
    rw [Bool.and_eq_true] at sd
    exact of_decide_eq_true sd.2
  refine repr_of_reads' r1 hs (PyData.noDict_hsm (PyData.hasDict_of_canLay d hc)) hg (by omega) (fun _ _ e => e) (fun h' u tk hk => ?_) hz
  exact ⟨.str _, H, I.kept hk, ⟨_, rfl⟩, q⟩
/-- lists and tuples -/
def seqD : D → Bool
  | .tup _ => true
  | .lst _ => true
  | .rol _ => true
  | .adr _ => true
  | _ => false
def txt (d : D) : Str := (pyD d).shown
def shownOk (d : D) : Prop := (pyD d).showable = true ∧ (pyD d).shown.length ≤ sizeLine
def rReprD : DC2 := fun ds μ q => match ds with
  | [d] => seqD d = true ∧ plainD 64 (nrm μ d) = true ∧ shownOk (nrm μ d) ∧ q (.str (txt (nrm μ d))) μ
  | _ => False
section
variable {O : Org} {K : PySem.W.Frag}
theorem seq_ref {F : Zo} {H : Hp} {d : D} {v : V} (h : seqD d = true) (r : Rep K F H d v) : ∃ a, v = .ref a := by
  cases d <;> first
    | (simp [seqD] at h; done)
    | (obtain ⟨a, vs, rfl, _⟩ := r; exact ⟨a, rfl⟩)
    | (exact ⟨_, r⟩)
theorem cd_repr : CallD K (fun xs H Q => ∃ a d, xs = [.ref a] ∧ Dp K H (.ref a) d ∧ SeqAt.shaped d = true ∧ d.showable = true ∧ d.shown.length ≤ sizeLine ∧ Q (.str d.shown) H) rReprD := by
  intro O F H μ ds vs q Q hd rs t k
  unfold rReprD at t
  split at t
  · rename_i d
    obtain ⟨v, rfl, h1⟩ := repL1 rs
    obtain ⟨t1, t2, ⟨t3, t4⟩, t5⟩ := t
    obtain ⟨a, rfl⟩ := seq_ref t1 h1
    exact ⟨a, _, rfl, nrm_rep hd t2 h1, shaped_of t2, t3, t4, k F H μ (.str (txt (nrm μ d))) _ (Ext.refl F H) hd rfl t5⟩
  · exact t.elim
/-- x in l, of data -/
def ng : Bool → Bool → Bool
  | true, b => !b
  | false, b => b
def rInG (neg : Bool) : DR2 := fun x y μ q => match nrm μ y with
  | .lst l => plainD 64 (nrm μ x) = true ∧ plainD 64 (.lst l) = true ∧ q (.bl (ng neg (l.any fun z => eqD z (nrm μ x)))) μ
  | .rol l => plainD 64 (nrm μ x) = true ∧ plainD 64 (.lst l) = true ∧ q (.bl (ng neg (l.any fun z => eqD z (nrm μ x)))) μ
  | _ => False
theorem any_py (f : PyData → Bool) : ∀ l : List D, (pyDs l).any f = l.any fun z => f (pyD z)
  | [] => rfl
  | d :: l => by rw [pyDs, List.any_cons, List.any_cons, any_py f l]
theorem od_in : OpD K (rInD K) (rInG false) := by
  intro O F H μ x y v w q Q hd rx ry t k
  have main : ∀ l, (nrm μ y = .lst l ∨ nrm μ y = .rol l) → plainD 64 (nrm μ x) = true → plainD 64 (.lst l) = true → q (.bl (l.any fun z => eqD z (nrm μ x))) μ → rInD K v w H Q := fun l hy p1 p2 t => by
    have e : pyD (nrm μ y) = .list (pyDs l) := by rcases hy with h | h <;> rw [h] <;> rfl
    have py : plainD 64 (nrm μ y) = true := by rcases hy with h | h <;> rw [h] <;> exact p2
    have hl := nrm_rep hd py ry
    rw [e] at hl
    have hs := shaped_of py
    rw [e] at hs
    refine ⟨_, _, nrm_rep hd p1 rx, hl, shaped_of p1, hs, k F H μ (.bl (l.any fun z => eqD z (nrm μ x))) _ (Ext.refl F H) hd ?_ t⟩
    rw [any_py]; rfl
  unfold rInG at t
  split at t
  · rename_i l hl
    exact main l (.inl hl) t.1 t.2.1 t.2.2
  · rename_i l hl
    exact main l (.inr hl) t.1 t.2.1 t.2.2
  · exact t.elim
theorem od_notIn : OpD K (rNotInD K) (rInG true) := by
  intro O F H μ x y v w q Q hd rx ry t k
  have main : ∀ l, (nrm μ y = .lst l ∨ nrm μ y = .rol l) → plainD 64 (nrm μ x) = true → plainD 64 (.lst l) = true → q (.bl (!l.any fun z => eqD z (nrm μ x))) μ → rNotInD K v w H Q := fun l hy p1 p2 t => by
    have e : pyD (nrm μ y) = .list (pyDs l) := by rcases hy with h | h <;> rw [h] <;> rfl
    have py : plainD 64 (nrm μ y) = true := by rcases hy with h | h <;> rw [h] <;> exact p2
    have hl := nrm_rep hd py ry
    rw [e] at hl
    have hs := shaped_of py
    rw [e] at hs
    refine ⟨_, _, nrm_rep hd p1 rx, hl, shaped_of p1, hs, k F H μ (.bl (!l.any fun z => eqD z (nrm μ x))) _ (Ext.refl F H) hd ?_ t⟩
    rw [any_py]; rfl
  unfold rInG at t
  split at t
  · rename_i l hl
    exact main l (.inl hl) t.1 t.2.1 t.2.2
  · rename_i l hl
    exact main l (.inr hl) t.1 t.2.1 t.2.2
  · exact t.elim
end
end DL

set_option Elab.async false
set_option linter.all false
set_option maxRecDepth 100000
/-! DK: a def called with keywords, over data -/
namespace DL
open PySem L2
def pick {α : Type} (perm : List Nat) (xs : List α) : List α := perm.filterMap fun i => xs[i]?
theorem pick_cons {α : Type} (i : Nat) (perm : List Nat) (xs : List α) : pick (i :: perm) xs = (match xs[i]? with | some x => x :: pick perm xs | none => pick perm xs) := by
  unfold pick
  rw [List.filterMap_cons]
  cases xs[i]? <;> rfl
theorem vals_pick {zs : List V} {ws : List Value} (r : Vals zs ws) : ∀ perm : List Nat, Vals (pick perm zs) (pick perm ws)
  | [] => .nil
  | i :: perm => by
    rw [pick_cons, pick_cons]
    cases e : zs[i]? with
    | none => rw [r.none_of e]; exact vals_pick r perm
    | some x =>
      obtain ⟨u, h1, h2⟩ := r.get e
      rw [h1]
      exact .cons h2 (vals_pick r perm)
theorem repL_pick {K : PySem.W.Frag} {F : Zo} {H : Hp} {zs : List D} {ws : List V} (r : RepL K F H zs ws) : ∀ perm : List Nat, RepL K F H (pick perm zs) (pick perm ws)
  | [] => RepL.nil
  | i :: perm => by
    rw [pick_cons, pick_cons]
    cases e : zs[i]? with
    | none =>
      have : ws[i]? = none := List.getElem?_eq_none_iff.mpr (by rw [← r.length]; exact List.getElem?_eq_none_iff.mp e)
      rw [this]; exact repL_pick r perm
    | some x =>
      obtain ⟨u, h1, h2⟩ := r.get e
      rw [h1]
      exact .cons h2 (repL_pick r perm)
structure KwB (fd : FuncData) (ps ks : List Str) (n : Nat) (perm : List Nat) : Prop where
  to : ∀ (s : Shared) (us ws : List Value), us.length = n → ws.length = ks.length → BindsTo s fd ⟨us, ks.zip ws⟩ (ps.zip (us ++ pick perm ws))
structure FdK (P : Program) (w : World) (K : PySem.W.Frag) (mg : Str → Option Value) (base : Heap) (x : Str) (k : Nat) (ps : List Str) (c : DSp) (ks : List Str) (n : Nat) (perm : List Nat) : Prop where
  ex : ∃ (f : Addr) (fd : FuncData), FnG P w K mg base k f fd ps (LSp K c) ∧ mg x = some (.ref f) ∧ PySem.W.keepIn K (.ref f) = true ∧ KwB fd ps ks n perm
abbrev DKw (O : Org) (X : Cx) (kws : List Keyword) (t : DTA) : Prop := PK X kws (LA X.K O t)
def dCallK (c : DSp) (e : DX) (n m : Nat) (perm : List Nat) (ta tk : DTA) : DTE := fun δ μ q => ta δ μ fun ds μ1 => tk δ μ1 fun zs μ2 => ds.length = n ∧ zs.length = m ∧ c (ds ++ pick perm zs) μ2 q e
section
variable {O : Org} {X : Cx} {k j n : Nat} {f : Addr} {fd : FuncData} {ps ks : List Str} {c : DSp} {e : DX} {x : Str} {p pos kpos : Pos} {a : Expr} {es : List Expr} {t tk : DTA} {ta : DTE} {kws : List Keyword} {perm : List Nat} {nm : Option Str} {sp : Sp} {E : XK}
theorem pk_weak {t t' : TA} (h : PK X kws t) (w : ∀ σ H Q, t' σ H Q → t σ H Q) : PK X kws t' := ⟨fun pos pins s σ H Q I q => h.run pos pins s σ H Q I (w σ H Q q)⟩
theorem dk_nil : DKw O X [] dNil := pk_weak pk_nil fun σ H Q ⟨F, δ, μ, q, hd, rs, t, k⟩ => k F H μ [] [] (Ext.refl F H) hd RepL.nil t
theorem dk_cons (ha : DE O X a ta) (hr : DKw O X kws t) : DKw O X (⟨nm, a, kpos⟩ :: kws) (dCons ta t) :=
  pk_weak (pk_cons ha hr) fun σ H Q ⟨F, δ, μ, q, hd, rs, t, k⟩ =>
    ⟨F, δ, μ, _, hd, rs, t, fun F1 H1 μ1 d v e1 hd1 r1 t1 => ⟨F1, δ, μ1, _, hd1, rs.ext e1, t1, fun F2 H2 μ2 ds vs e2 hd2 r2 t2 =>
      k F2 H2 μ2 _ _ (e1.trans e2) hd2 (.cons (r1.ext e2) r2) t2⟩⟩
def tCallKG (sp : Sp) (n m : Nat) (perm : List Nat) (E : XK) (t tk : TA) : TE := fun σ H Q => t σ H fun vs H1 => tk σ H1 fun zs H2 => vs.length = n ∧ zs.length = m ∧ sp (vs ++ pick perm zs) H2 Q E
theorem run_fnGK {pins : List (Addr × Obj)} {σ : L2.St} {H : Hp} {s : Shared} {Q : VK} {us ws : List Value} {vs zs : List V} (F : FnG X.prog X.w X.K X.mg X.base k f fd ps sp) (hr : Room k X.A) (hgd : X.A.guards = some []) (hb : KwB fd ps ks n perm) (hx : Passes (CX X.prog X.w) X E)
    (I : Inv X pins σ H s) (r : Vals vs us) (rz : Vals zs ws) (h1 : vs.length = n) (h2 : zs.length = ks.length) (h : sp (vs ++ pick perm zs) H Q E) : wpAny (model X.prog X.w) X.A (call (.ref f) us (ks.zip ws)) (EP X pins σ Q) X.xe s := by
  have rel := r.append (vals_pick rz perm)
  refine wpAny_call (codeAny_mono (F.run X.A X.stack s H ⟨us, ks.zip ws⟩ _ _ Q E hr hgd I.env0 (hb.to s us ws (r.length.symm.trans h1) (rz.length.symm.trans h2)) rel h) ?_)
  intro res s2 end2
  match res, end2 with
  | .error e, end2 => exact hx pins σ H s e s2 I end2
  | .ok (.ret u), end2 => exact I.after end2
theorem pe_callGK {t tk : TA} (F : FnG X.prog X.w X.K X.mg X.base k f fd ps sp) (hr : Room k X.A) (hgd : X.A.guards = some []) (hg : Gl X x) (hm : X.mg x = some (.ref f)) (hk : PySem.W.keepIn X.K (.ref f) = true) (hb : KwB fd ps ks n perm) (hx : Passes (CX X.prog X.w) X E)
    (ha : PA X (a :: es) t) (hkw : PK X kws tk) (hall : (backToKw pos (keywordEach kws X.env)).all (·.1.isSome) = true) (hks : (backToKw pos (keywordEach kws X.env)).filterMap (·.1) = ks)
    (hdb : (x == ("__debug__" : Str)) = false) (he : starEach (a :: es) X.env = (false, eval a X.env) :: starEach es X.env)
    (hpl : ((backTo pos (starEach (a :: es) X.env)).any (·.1) || (backToKw pos (keywordEach kws X.env)).any (·.1.isNone)) = false) :
    PE X (.Call (.Name x p) (a :: es) kws pos) (tCallKG sp n ks.length perm E t tk) := by
  constructor
  intro pins s σ H Q I h
  refine wpAny_Call_Name_kw (ld_glob I hg hm ?_ hdb)
  refine PySem.W.callWith_KW (h₀ := X.base) I.ok.mod.kin hk hall (thn (ha.run pos pins s σ H _ I h) ?_) hpl he
  rintro us s1 ⟨vs, H1, I1, r, q⟩
  refine thn (hkw.run pos pins s1 σ H1 _ I1 q) ?_
  rintro ws s2 ⟨zs, H2, I2, rz, l1, l2, q2⟩
  refine ⟨I2.kIn, ?_⟩
  rw [hks]
  exact run_fnGK F hr hgd hb hx I2 r rz l1 l2 q2
theorem pe_callGK0 {tk : TA} (F : FnG X.prog X.w X.K X.mg X.base k f fd ps sp) (hr : Room k X.A) (hgd : X.A.guards = some []) (hg : Gl X x) (hm : X.mg x = some (.ref f)) (hk : PySem.W.keepIn X.K (.ref f) = true) (hb : KwB fd ps ks 0 perm) (hx : Passes (CX X.prog X.w) X E)
    (hkw : PK X kws tk) (hall : (backToKw pos (keywordEach kws X.env)).all (·.1.isSome) = true) (hks : (backToKw pos (keywordEach kws X.env)).filterMap (·.1) = ks)
    (hdb : (x == ("__debug__" : Str)) = false) (hpl : ((backTo pos (starEach [] X.env)).any (·.1) || (backToKw pos (keywordEach kws X.env)).any (·.1.isNone)) = false) :
    PE X (.Call (.Name x p) [] kws pos) (tCallKG sp 0 ks.length perm E tNil tk) := by
  constructor
  intro pins s σ H Q I h
  refine wpAny_Call_Name_kw (ld_glob I hg hm ?_ hdb)
  refine PySem.W.callWith_KW0 (h₀ := X.base) I.ok.mod.kin hk hall ?_ hpl
  refine thn (hkw.run pos pins s σ H _ I h) ?_
  rintro ws s2 ⟨zs, H2, I2, rz, l1, l2, q2⟩
  refine ⟨I2.kIn, ?_⟩
  rw [hks]
  exact run_fnGK F hr hgd hb hx I2 .nil rz l1 l2 q2
theorem lcallk {K : PySem.W.Frag} {m : Nat} : ∀ σ H Q, LE K O (dCallK c e n m perm t tk) σ H Q → tCallKG (LSp K c) n m perm (LX K O e) (LA K O t) (LA K O tk) σ H Q := fun σ H Q ⟨F, δ, μ, q, hd, rs, t, k⟩ =>
  ⟨F, δ, μ, _, hd, rs, t, fun F1 H1 μ1 ds vs e1 hd1 r1 t1 => ⟨F1, δ, μ1, _, hd1, rs.ext e1, t1, fun F2 H2 μ2 zs us e2 hd2 r2 ⟨l1, l2, t2⟩ =>
    ⟨by rw [← r1.length]; exact l1, by rw [← r2.length]; exact l2, F2, μ2, ds ++ pick perm zs, q, e, hd2.here, (r1.ext e2).append (repL_pick r2 perm), t2, fun F3 H3 μ3 d v hd3 r3 q3 => by
    obtain ⟨h1, h2⟩ := hd2.back hd3
    exact k F3 H3 μ3 d v ((e1.trans e2).trans h2) h1 r3 q3, fun cls dd H' ⟨C, b, v, d, F', μ', h1, h2, h3, h4, h5, h6⟩ => ⟨C, b, v, d, F', μ', h1, h2, h3, (hd2.back h4).1, h5, h6⟩⟩⟩⟩
theorem de_callFK {m : Nat} (h : FdK X.prog X.w X.K X.mg X.base x j ps c ks n perm) (hr : Room j X.A) (hgd : X.A.guards = some []) (hx : Passes (CX X.prog X.w) X (LX X.K O e)) (hg : Gl X x) (ha : DA O X (a :: es) t) (hkw : DKw O X kws tk) (hdb : (x == ("__debug__" : Str)) = false := by decide)
    (hall : (backToKw pos (keywordEach kws X.env)).all (·.1.isSome) = true := by rfl) (hks : (backToKw pos (keywordEach kws X.env)).filterMap (·.1) = ks := by rfl)
    (he : starEach (a :: es) X.env = (false, eval a X.env) :: starEach es X.env := by rfl) (hpl : ((backTo pos (starEach (a :: es) X.env)).any (·.1) || (backToKw pos (keywordEach kws X.env)).any (·.1.isNone)) = false := by rfl) (hml : m = ks.length := by rfl) : DE O X (.Call (.Name x p) (a :: es) kws pos) (dCallK c e n m perm t tk) := by
  subst hml
  obtain ⟨f, fd, F, hm, hk, hb⟩ := h.ex
  exact pe_weak (pe_callGK F hr hgd hg hm hk hb hx ha hkw hall hks hdb he hpl) lcallk
theorem de_callFK0 {m : Nat} (h : FdK X.prog X.w X.K X.mg X.base x j ps c ks 0 perm) (hr : Room j X.A) (hgd : X.A.guards = some []) (hx : Passes (CX X.prog X.w) X (LX X.K O e)) (hg : Gl X x) (hkw : DKw O X kws tk) (hdb : (x == ("__debug__" : Str)) = false := by decide)
    (hall : (backToKw pos (keywordEach kws X.env)).all (·.1.isSome) = true := by rfl) (hks : (backToKw pos (keywordEach kws X.env)).filterMap (·.1) = ks := by rfl)
    (hpl : ((backTo pos (starEach [] X.env)).any (·.1) || (backToKw pos (keywordEach kws X.env)).any (·.1.isNone)) = false := by rfl) (hml : m = ks.length := by rfl) : DE O X (.Call (.Name x p) [] kws pos) (dCallK c e 0 m perm dNil tk) := by
  subst hml
  obtain ⟨f, fd, F, hm, hk, hb⟩ := h.ex
  refine pe_weak (pe_callGK0 F hr hgd hg hm hk hb hx hkw hall hks hdb hpl) fun σ H Q h => ?_
  have := lcallk σ H Q h
  obtain ⟨F1, δ, μ, q, hd1, rs, t1, k1⟩ := this
  exact k1 F1 H μ [] [] (Ext.refl _ _) hd1 RepL.nil t1
theorem Ctx.u65 (C : Ctx O X k e) : X.A.units + 65 < cLine := by have := C.room.un; omega
theorem Ctx.u66 (C : Ctx O X k e) : X.A.units + 66 < cLine := by have := C.room.un; omega
/-- how its arguments bind -/
theorem kwb_of {K : PySem.W.Frag} {q : Str} {st : Stmt} (F : Fun K x q st f fd)
    (h : ∀ (kV doc pm : Value) (an : Option Addr) (cdv ct : Value) (us ws : List Value), us.length = n → ws.length = ks.length → bindArgs (PySem.W.fnOf x q (defArgs st) (defBody st) (defScope st) .none kV doc pm an cdv ct) ⟨us, ks.zip ws⟩ = pure (ps.zip (us ++ pick perm ws))) : KwB fd ps ks n perm := by
  obtain ⟨oc, od, kV, doc, pm, an, cdv, ct, osl, rfl, lk, hcd⟩ := F.ex
  exact ⟨fun s us ws h1 h2 => .of_eq (h kV doc pm an cdv ct us ws h1 h2)⟩
end
end DL

set_option Elab.async false
set_option linter.all false
set_option maxRecDepth 100000
/-! DG: range with a step; list(range(..)) -/
namespace DL
open PySem L2
/-- lo, lo + c, .. -/
def stepsD (lo c : Int) (n : Nat) : List D := (List.range n).map fun i => D.int (lo + (i : Nat) * c)
def diRng3 (ta : DTA) : DTI := fun δ μ q => ta δ μ fun ds μ1 => match ds with | [.int i, .int j, .int c] => ∃ n : Nat, RgC i j c n ∧ q (stepsD i c n) (fun _ => True) μ1 | _ => False
theorem itok_steps {O : Org} {K : PySem.W.Frag} {F : Zo} {H : Hp} (lo c : Int) (n : Nat) : ItOk K O F H (stepsD lo c n) (fun _ => True) (Itc lo c n) := by
  have hl : (stepsD lo c n).length = n := by simp [stepsD]
  refine ⟨fun i F2 H2 μ2 _ _ _ h => by rw [hl] at h; exact h, fun i F2 H2 μ2 x H3 e hd _ h ⟨h1, h2⟩ => ?_, fun i F2 H2 μ2 _ _ _ h => by rw [hl] at h; exact h⟩
  subst h1 h2
  rw [hl] at h
  exact ⟨F2, .int (lo + i * c), Ext.refl _ _, hd, by simp [stepsD, h], rfl⟩
theorem repL3 {K : PySem.W.Frag} {F : Zo} {H : Hp} {a b c : D} {vs : List V} (r : RepL K F H [a, b, c] vs) : ∃ u v w, vs = [u, v, w] ∧ Rep K F H a u ∧ Rep K F H b v ∧ Rep K F H c w := by
  obtain ⟨u, r', rfl, h1, v, r2, rfl, h2, w, r3, rfl, h3, h4⟩ := r
  obtain rfl : r3 = [] := h4
  exact ⟨u, v, w, rfl, h1, h2, h3⟩
section
variable {O : Org} {X : Cx} {tg e a b c : Expr} {ta tb : DTE} {t : DTA} {pos p p2 pos2 : Pos}
theorem di_range3 (hg : Gl X "range") (hm : X.mg "range" = none) (ha : DA O X [a, b, c] t) (hs : starEach [a, b, c] X.env = (false, eval a X.env) :: starEach [b, c] X.env := by rfl) (hpl : (backTo pos (starEach [b, c] X.env)).any (·.1) = false := by rfl) :
    DI O X tg (.Call (.Name "range" p) [a, b, c] [] pos) (diRng3 t) :=
  pi_weak (pi_range3 hg hm ha hs hpl) fun σ H R ⟨F, δ, μ, q, hd, rs, t, k⟩ => ⟨F, δ, μ, _, hd, rs, t, fun F1 H1 μ1 ds vs e1 hd1 r1 t1 => by
    match ds, t1 with
    | [.int i, .int j, .int c], ⟨n, h, t1⟩ =>
      obtain ⟨u, v, w, rfl, h1, h2, h3⟩ := repL3 r1
      obtain rfl : u = .int i := h1
      obtain rfl : v = .int j := h2
      obtain rfl : w = .int c := h3
      exact ⟨i, j, c, n, rfl, h, k F1 H1 μ1 _ _ _ e1 hd1 (itok_steps i c n) t1⟩⟩
/-- list(range(a, b)) -/
def dLstRg (ta tb : DTE) : DTE := fun δ μ q => ta δ μ fun x μ1 => tb δ μ1 fun y μ2 => match x, y with
  | .int i, .int j => RgOk i j ∧ q (.lst (intsD i (j - i).toNat)) μ2
  | _, _ => False
def dLstRgM (ta tb : DTE) : DTE := fun δ μ q => ta δ μ fun x μ1 => tb δ μ1 fun y μ2 => match x, y with
  | .int i, .int j => RgOk i j ∧ ∀ p, μ2 p = none → q (.adr p) (updM μ2 p (.lst (intsD i (j - i).toNat)))
  | _, _ => False
theorem rg_rep {K : PySem.W.Frag} {F : Zo} {H : Hp} (i j : Int) : RepL K F H (intsD i (j - i).toNat) (rgV i j) := by
  have := RepL.of_ints (K := K) (F := F) (H := H) ((List.range (j - i).toNat).map fun k => i + (k : Nat))
  rw [List.map_map, List.map_map] at this
  exact this
theorem de_listRg2 (hc : X.calm = true) (hl : Gl X "list") (hml : X.mg "list" = none) (hg : Gl X "range") (hm : X.mg "range" = none) (ha : DE O X a ta) (hb : DE O X b tb)
    (na : starEach [a, b] X.env = (false, eval a X.env) :: starEach [b] X.env := by rfl) (nb : starEach [b] X.env = (false, eval b X.env) :: starEach [] X.env := by rfl) (hp : (backTo pos2 (starEach [b] X.env)).any (·.1) = false := by rfl)
    (ne : starEach [Expr.Call (.Name "range" p2) [a, b] [] pos2] X.env = (false, eval (.Call (.Name "range" p2) [a, b] [] pos2) X.env) :: starEach [] X.env := by rfl) :
    DE O X (.Call (.Name "list" p) [.Call (.Name "range" p2) [a, b] [] pos2] [] pos) (dLstRg ta tb) :=
  pe_weak (pe_listRg hc hl hml (prg_2 hg hm ha hb na nb hp) ne) fun σ H Q ⟨F, δ, μ, q, hd, rs, t, k⟩ =>
  ⟨F, δ, μ, _, hd, rs, t, fun F1 H1 μ1 x v e1 hd1 r1 t1 => ⟨F1, δ, μ1, _, hd1, rs.ext e1, t1, fun F2 H2 μ2 y u e2 hd2 r2 t2 => by
    have r1 := r1.ext e2
    match x, y, t2, r1, r2 with
    | .int i, .int j, ⟨ok, t2⟩, r1, r2 =>
    obtain rfl : v = .int i := r1
    obtain rfl : u = .int j := r2
    exact ⟨i, j, rfl, rfl, ok, fun q hq => k _ _ μ2 (.lst _) (.ref q) ((e1.trans e2).trans (ext_newF hd2 hq)) (hd2.newF hq) ⟨q, _, rfl, ⟨.inr rfl, upd_same⟩, rg_rep i j⟩ t2⟩⟩⟩
theorem de_listRg2M (hc : X.calm = true) (hl : Gl X "list") (hml : X.mg "list" = none) (hg : Gl X "range") (hm : X.mg "range" = none) (ha : DE O X a ta) (hb : DE O X b tb)
    (na : starEach [a, b] X.env = (false, eval a X.env) :: starEach [b] X.env := by rfl) (nb : starEach [b] X.env = (false, eval b X.env) :: starEach [] X.env := by rfl) (hp : (backTo pos2 (starEach [b] X.env)).any (·.1) = false := by rfl)
    (ne : starEach [Expr.Call (.Name "range" p2) [a, b] [] pos2] X.env = (false, eval (.Call (.Name "range" p2) [a, b] [] pos2) X.env) :: starEach [] X.env := by rfl) :
    DE O X (.Call (.Name "list" p) [.Call (.Name "range" p2) [a, b] [] pos2] [] pos) (dLstRgM ta tb) :=
  pe_weak (pe_listRg hc hl hml (prg_2 hg hm ha hb na nb hp) ne) fun σ H Q ⟨F, δ, μ, q, hd, rs, t, k⟩ =>
  ⟨F, δ, μ, _, hd, rs, t, fun F1 H1 μ1 x v e1 hd1 r1 t1 => ⟨F1, δ, μ1, _, hd1, rs.ext e1, t1, fun F2 H2 μ2 y u e2 hd2 r2 t2 => by
    have r1 := r1.ext e2
    match x, y, t2, r1, r2 with
    | .int i, .int j, ⟨ok, t2⟩, r1, r2 =>
    obtain rfl : v = .int i := r1
    obtain rfl : u = .int j := r2
    exact ⟨i, j, rfl, rfl, ok, fun q hq => k _ _ _ (.adr q) (.ref q) ((e1.trans e2).trans (ext_new hd2 hq)) (hd2.newM (m := .lst (intsD i (j - i).toNat)) hq ⟨_, upd_same, rg_rep i j⟩) rfl (t2 q (hd2.free hq))⟩⟩⟩
end
end DL

set_option linter.all false
namespace DL
open PySem L2
theorem RgC_up {i j c : Int} (c0 : 0 < c) (c1 : c < 1000000) (i0 : -(2 ^ 60) ≤ i) (ij : i < j) (j1 : j < 2 ^ 60) : RgC i j c ((j - i - 1) / c + 1).toNat := by
  have q0 : 0 ≤ (j - i - 1) / c := Int.ediv_nonneg (by omega) (by omega)
  have q1 : (j - i - 1) / c ≤ j - i - 1 := Int.ediv_le_self _ (by omega)
  have e : Builtin.Range.rangeSize i j c = (j - i - 1) / c + 1 := by
    unfold Builtin.Range.rangeSize
    rw [if_pos (show c > 0 from c0), if_pos ij]
  refine ⟨by omega, by omega, ?_, by rw [e]; omega⟩
  unfold Builtin.Range.small
  rw [e]
  simp only [Builtin.Range.rangeFitsLong, Bool.and_eq_true, Bool.or_eq_true, decide_eq_true_eq, beq_iff_eq, show c > 0 from c0, if_true]
  omega
end DL

set_option linter.all false
set_option maxRecDepth 100000
namespace DL
open PySem L2
/-! texts that fit -/
def okD (w : Nat) (d : D) : Prop := (pyD d).leavesShort 13 = true ∧ (pyD d).weight ≤ w ∧ (pyD d).showable = true
def okDs (w : Nat) (l : List D) : Prop := PyData.leavesShortAll 13 (pyDs l) = true ∧ PyData.weightAll (pyDs l) ≤ w ∧ PyData.showableAll (pyDs l) = true
theorem okD_non : okD 0 .non := ⟨rfl, Nat.le_refl _, rfl⟩
theorem okD_bl (b : Bool) : okD 0 (.bl b) := ⟨rfl, Nat.le_refl _, rfl⟩
theorem log2_small {i : Int} (h : i.natAbs < 10 ^ 12) : i.natAbs.log2 < 40 := by
  by_cases z : i.natAbs = 0
  · rw [z]; decide
  · exact (Nat.log2_lt z).mpr (by omega)
theorem okD_int {i : Int} (h : i.natAbs < 10 ^ 12) : okD 40 (.int i) := by
  have h1 := log2_small h
  refine ⟨decide_eq_true (PyData.shown_int_le h), ?_, decide_eq_true (by omega)⟩
  show (if i == 0 then 0 else i.natAbs.log2 + 1) ≤ 40
  split <;> omega
theorem okDs_nil : okDs 0 [] := ⟨rfl, Nat.le_refl _, rfl⟩
theorem okDs_cons {w w' : Nat} {d : D} {l : List D} (h : okD w d) (k : okDs w' l) : okDs (w + 1 + w') (d :: l) := by
  refine ⟨?_, ?_, ?_⟩
  · show ((pyD d).leavesShort 13 && PyData.leavesShortAll 13 (pyDs l)) = true
    rw [h.1, k.1]; rfl
  · show (pyD d).weight + 1 + PyData.weightAll (pyDs l) ≤ _
    have := h.2.1; have := k.2.1; omega
  · show ((pyD d).showable && PyData.showableAll (pyDs l)) = true
    rw [h.2.2, k.2.2]; rfl
theorem okDs_all {w : Nat} : ∀ {l : List D}, (∀ d ∈ l, okD w d) → okDs ((w + 1) * l.length) l
  | [], _ => okDs_nil
  | d :: l, h => by
    have := okDs_cons (h d List.mem_cons_self) (okDs_all fun x hx => h x (List.mem_cons_of_mem _ hx))
    rwa [show (w + 1) * (d :: l).length = w + 1 + (w + 1) * l.length by rw [List.length_cons, Nat.mul_add, Nat.mul_one, Nat.add_comm]]
theorem okD_tup {w : Nat} {l : List D} (h : okDs w l) : okD w (.tup l) := h
theorem okD_lst {w : Nat} {l : List D} (h : okDs w l) : okD w (.lst l) := h
theorem okD.le {w w' : Nat} {d : D} (h : okD w d) (k : w ≤ w') : okD w' d := ⟨h.1, Nat.le_trans h.2.1 k, h.2.2⟩
theorem shownOk_of {w : Nat} {d : D} (h : okD w d) (hw : w ≤ 1000000) : shownOk d := by
  refine ⟨h.2.2, ?_⟩
  have := PyData.shown_le 13 (by decide) (pyD d) h.1
  have := h.2.1
  rw [sizeLine_eq]; omega
theorem atI_end {α : Type} {l : List α} {x : α} (h : l.getLast? = some x) : atI l (-1) = some x := by
  have hl : l ≠ [] := fun z => by rw [z] at h; cases h
  have h0 : 0 < l.length := List.length_pos_iff.mpr hl
  rw [List.getLast?_eq_getElem?] at h
  unfold atI
  have e : ixN l.length (-1) = some (l.length - 1) := by
    unfold ixN
    simp
    omega
  rw [e]; exact h
end DL

set_option Elab.async false
set_option linter.all false
set_option maxRecDepth 100000
/-! DO: objects with fields, over data -/
namespace DL
open PySem L2
section
variable {K : PySem.W.Frag} {F : Zo} {H : Hp}
theorem zip_rep {f : Str} : ∀ {ns : List Str} {l : List D} {vs : List V} {d : D}, RepL K F H l vs → (ns.zip l).lookup f = some d → ∃ v, (ns.zip vs).lookup f = some v ∧ Rep K F H d v
  | [], l, vs, d, r, e => by simp at e
  | n :: ns, [], vs, d, r, e => by simp at e
  | n :: ns, x :: l, vs, d, r, e => by
    obtain ⟨v, r', rfl, h1, h2⟩ := r
    rw [List.zip_cons_cons, List.lookup_cons] at e ⊢
    cases z : (f == n) with
    | true =>
      rw [z] at e
      obtain rfl := Option.some.inj e
      exact ⟨v, rfl, h1⟩
    | false =>
      rw [z] at e
      exact zip_rep h2 e
/-- a field: its place among the names -/
def putN (f : Str) (y : D) : List Str → List D → List Str × List D
  | [], _ => ([f], [y])
  | n :: ns, [] => ([f], [y])
  | n :: ns, x :: l => if n = f then (n :: ns, y :: l) else (n :: (putN f y ns l).1, x :: (putN f y ns l).2)
theorem putN_rep {f : Str} {y : D} {u : V} (hu : Rep K F H y u) : ∀ {ns : List Str} {l : List D} {vs : List V}, ns.length = vs.length → RepL K F H l vs →
    ∃ vs', putF f u (ns.zip vs) = (putN f y ns l).1.zip vs' ∧ (putN f y ns l).1.length = vs'.length ∧ RepL K F H (putN f y ns l).2 vs'
  | [], l, [], _, r => ⟨[u], rfl, rfl, .cons hu RepL.nil⟩
  | [], _, _ :: _, h, _ => by simp at h
  | _ :: _, _, [], h, _ => by simp at h
  | n :: ns, [], v :: vs, _, r => by have : v :: vs = [] := r; cases this
  | n :: ns, x :: l, v :: vs, h, r => by
    obtain ⟨v', r', e, h1, h2⟩ := r
    cases e
    have hl : ns.length = vs.length := by simpa using h
    by_cases z : n = f
    · have e1 : putF f u ((n :: ns).zip (v :: vs)) = (n, u) :: ns.zip vs := by
        rw [List.zip_cons_cons]; exact if_pos z
      have e2 : putN f y (n :: ns) (x :: l) = (n :: ns, y :: l) := if_pos z
      rw [e1, e2]
      exact ⟨u :: vs, rfl, by simpa using h, .cons hu h2⟩
    · obtain ⟨vs', p1, p2, p3⟩ := putN_rep hu hl h2
      have e1 : putF f u ((n :: ns).zip (v :: vs)) = (n, v) :: putF f u (ns.zip vs) := by
        rw [List.zip_cons_cons]; exact if_neg z
      have e2 : putN f y (n :: ns) (x :: l) = (n :: (putN f y ns l).1, x :: (putN f y ns l).2) := if_neg z
      rw [e1, e2, p1]
      exact ⟨v :: vs', rfl, by simp [p2], .cons h1 p3⟩
end
/-- e.f, a field of an object of C -/
def dFld (C : Addr) (f : Str) (te : DTE) : DTE := fun δ μ q => te δ μ fun x μ1 => match x with
  | .ins C' ns l => C' = C ∧ ∃ d, (ns.zip l).lookup f = some d ∧ q d μ1
  | .adr p => ∃ ns l d, μ1 p = some (.obj C ns l) ∧ (ns.zip l).lookup f = some d ∧ q d μ1
  | _ => False
/-- o.f = value -/
def dsFld (C : Addr) (f : Str) (ta tv : DTE) : DTS := fun E δ μ => tv δ μ fun y μ1 => ta δ μ1 fun x μ2 => match x with
  | .adr p => ∃ ns l, μ2 p = some (.obj C ns l) ∧ ns.length < 1000 ∧ E.nx δ (updM μ2 p (.obj C (putN f y ns l).1 (putN f y ns l).2))
  | _ => False
section
variable {O : Org} {X : Cx} {C : Addr} {f : Str} {e o value : Expr} {te ta tv : DTE} {pos pos' : Pos}
theorem de_fld (c : Cls X.K C) (n : NoAttr X.K C f) (he : DE O X e te) (hb : attributeBase e f X.env (eval e X.env) = eval e X.env := by rfl) : DE O X (.Attribute e f pos) (dFld C f te) :=
  pe_weak (pe_fld he hb) fun σ H Q ⟨F, δ, μ, q, hd, rs, t, k⟩ => ⟨F, δ, μ, _, hd, rs, t, fun F1 H1 μ1 x v e1 hd1 r1 t1 => by
    cases x <;> first | exact False.elim t1 | skip
    · rename_i p
      obtain rfl : v = .ref p := r1
      obtain ⟨ns, l, d, hm, hl, t1⟩ := t1
      obtain ⟨_, dx, vs, h1, h2, h3⟩ := hd1.own p _ hm
      obtain ⟨u, h4, h5⟩ := zip_rep h3 hl
      exact ⟨p, C, dx, _, u, rfl, h1, c, n, h4, k F1 H1 μ1 d u e1 hd1 h5 t1⟩
    · rename_i C' ns l
      obtain ⟨rfl, d, hl, t1⟩ := t1
      obtain ⟨a, dx, vs, rfl, ⟨_, h1⟩, h2, h3⟩ := r1
      obtain ⟨u, h4, h5⟩ := zip_rep h3 hl
      exact ⟨a, _, dx, _, u, rfl, h1, c, n, h4, k F1 H1 μ1 d u e1 hd1 h5 t1⟩⟩
theorem ds_fld (c : Cls X.K C) (n : NoAttr X.K C f) (ha : DE O X o ta) (hv : DE O X value tv) (hs : swapsWith value (some (.Attribute o f pos')) pos.line X.env = pure false := by rfl) : DSt O X (.Assign [.Attribute o f pos'] value pos) (dsFld C f ta tv) :=
  ps_weak (ps_fld ha hv hs) fun Z σ H ⟨F, δ, μ, E, hd, rs, t, L⟩ => ⟨F, δ, μ, _, hd, rs, t, fun F1 H1 μ1 y u e1 hd1 r1 t1 => ⟨F1, δ, μ1, _, hd1, rs.ext e1, t1, fun F2 H2 μ2 x v e2 hd2 r2 t2 => by
    cases x <;> first | exact False.elim t2 | skip
    rename_i p
    obtain rfl : v = .ref p := r2
    obtain ⟨ns, l, hm, hl, t2⟩ := t2
    obtain ⟨_, dx, vs, h1, h2, h3⟩ := hd2.own p _ hm
    have ex := ext_set (o := HO.ins C dx (putF f u (ns.zip vs))) hd2 hm
    obtain ⟨vs', p1, p2, p3⟩ := putN_rep (f := f) ((r1.ext e2).ext ex) h2 (h3.ext ex)
    refine ⟨p, C, dx, _, rfl, h1, c, n, by rw [List.length_zip]; omega, ?_⟩
    exact L.nx F2 _ _ δ σ ((e1.trans e2).trans ex) (hd2.set (m' := .obj C (putN f y ns l).1 (putN f y ns l).2) hm ⟨dx, vs', by rw [upd_same, p1], p2, p3⟩) (((rs.ext e1).ext e2).ext ex) t2⟩⟩
end
end DL

namespace DL
open PySem L2
/-! C(..): an object is made -/
theorem make_guards {A : Around} {C : Addr} {us : List Value} {kw : List (Str × Value)} (h : A.guards = some []) : (A.under (.builtin "type.__call__" ⟨.ref C :: us, kw⟩)).guards = some [] := by
  have e : (Code.builtin "type.__call__" ⟨.ref C :: us, kw⟩).isGuard = false := by
    show guardIds.contains "type.__call__" = false
    decide +kernel
  simp [Around.under, Code.guards, e, pushGuards, h]
theorem Hd.lay {K : PySem.W.Frag} {O : Org} {F : Zo} {H : Hp} {μ : Mu} {p : Addr} {o : HO} (h : Hd K O F H μ) (hp : H p = none) : Hd K O F (upd H p o) μ := by
  refine ⟨h.org.trans (ext_new h hp), fun a f => ?_, fun a m e => ?_⟩
  · have z : a ≠ p := fun z => h.nf hp (z ▸ f)
    rw [upd_ne z]; exact h.fr a f
  · have z : a ≠ p := fun z => by rw [z, h.free hp] at e; cases e
    exact ⟨(h.own a m e).1, (h.own a m e).2.ext (ext_new h hp) (upd_ne z)⟩
def dMake (C : Addr) (c : DSp) (e : DX) (dds : List D) (t : DTA) : DTE := fun δ μ q => t δ μ fun ds μ1 => ∀ p, μ1 p = none → c (.adr p :: (ds ++ dds)) (updM μ1 p (.obj C [] [])) (fun d μ2 => d = .non ∧ q (.adr p) μ2) e
section
variable {O : Org} {X : Cx} {k : Nat} {f C : Addr} {fd : FuncData} {ps : List Str} {sp : Sp} {dvs : List V} {ds : List Value} {E : XK} {x : Str} {p pos : Pos} {a : Expr} {es : List Expr} {t : DTA} {c : DSp} {e : DX} {dds : List D}
theorem run_makeG {pins : List (Addr × Obj)} {σ : L2.St} {H : Hp} {s : Shared} {Q : VK} {us : List Value} {vs : List V} (M : Mk X.K C f) (F : FnG X.prog X.w X.K X.mg X.base k f fd ps sp) (hr : Room (k + 1) X.A) (hgd : X.A.guards = some []) (hb : Binds X.K fd ps ds) (hd : Vals dvs ds)
    (hx : Passes (CX X.prog X.w) X E) (I : Inv X pins σ H s) (r : Vals vs us)
    (h : ∀ x dx, H x = none → H dx = none → dx ≠ x → sp (.ref x :: (vs ++ dvs)) (upd (upd H dx (.own x)) x (.ins C dx [])) (fun v H2 => v = .non ∧ Q (.ref x) H2) E) :
    wpAny (model X.prog X.w) X.A (call (.ref C) us) (EP X pins σ Q) X.xe s := by
  have hq := h (s.heap.objs.size + 1) s.heap.objs.size (I.hok.fresh (Nat.le_succ _)) (I.hok.fresh (Nat.le_refl _)) (Nat.ne_of_lt (Nat.lt_succ_self _))
  have I2 := Inv.made (C := C) I
  have r2 : Vals (V.ref (s.heap.objs.size + 1) :: (vs ++ dvs)) (Value.ref (s.heap.objs.size + 1) :: (us ++ ds)) := .cons rfl (r.append hd)
  have hl : (Value.ref (s.heap.objs.size + 1) :: us ++ ds).length = ps.length := r2.length.symm.trans (F.len _ _ _ _ hq)
  refine wpAny_call (make_map (f := f) I.kIn M.makes M.init (beq_iff_eq.mp M.fn) (codeAny_mono (F.run _ X.stack _ _ ⟨Value.ref (s.heap.objs.size + 1) :: us, []⟩ _ _ _ E (hr.make C us []) (make_guards hgd)
    (I2.env0.make C us []) (hb _ (Value.ref (s.heap.objs.size + 1) :: us) I2.kIn hl) r2 hq) ?_))
  intro res s2 end2
  match res, end2 with
  | .error e, end2 => exact hx pins σ _ _ e s2 I2 end2
  | .ok (.ret u), end2 =>
    obtain ⟨v, H', I3, rv, ev, q3⟩ := I2.after end2
    subst ev
    exact ⟨rv, ⟨V.ref (s.heap.objs.size + 1), H', I3, rfl, q3⟩⟩
theorem pe_makeG {t : TA} (M : Mk X.K C f) (F : FnG X.prog X.w X.K X.mg X.base k f fd ps sp) (hr : Room (k + 1) X.A) (hgd : X.A.guards = some []) (hg : Gl X x) (hm : X.mg x = some (.ref C)) (hb : Binds X.K fd ps ds) (hd : Vals dvs ds) (hx : Passes (CX X.prog X.w) X E)
    (ha : PA X (a :: es) t) (hdb : (x == ("__debug__" : Str)) = false) (he : starEach (a :: es) X.env = (false, eval a X.env) :: starEach es X.env) (hpl : (backTo pos (starEach es X.env)).any (·.1) = false) :
    PE X (.Call (.Name x p) (a :: es) [] pos) (tMake C sp dvs E t) := by
  constructor
  intro pins s σ H Q I h
  refine wpAny_Call_Name_kw (ld_glob I hg hm ?_ hdb)
  refine PySem.W.callWith_K (h₀ := X.base) I.ok.mod.kin M.kp (thn (ha.run pos pins s σ H _ I h) ?_) he hpl
  rintro us s1 ⟨vs, H1, I1, r, q⟩
  exact ⟨I1.kIn, run_makeG M F hr hgd hb hd hx I1 r q⟩
theorem lmake {K : PySem.W.Frag} (hdd : ∀ F H, RepL K F H dds dvs) : ∀ σ H Q, LE K O (dMake C c e dds t) σ H Q → tMake C (LSp K c) dvs (LX K O e) (LA K O t) σ H Q := fun σ H Q ⟨F, δ, μ, q, hd, rs, t, k⟩ =>
  ⟨F, δ, μ, _, hd, rs, t, fun F1 H1 μ1 ds vs e1 hd1 r1 t1 x dx hx hdx hne => by
    have hx' : upd H1 dx (.own x) x = none := by rw [upd_ne (Ne.symm hne)]; exact hx
    have h2 := hd1.lay (o := .own x) hdx
    have x2 := ext_new (o := HO.own x) hd1 hdx
    have h3 := h2.newM (o := .ins C dx []) (m := .obj C [] []) hx' ⟨dx, [], upd_same, rfl, RepL.nil⟩
    have x3 := ext_new (o := HO.ins C dx []) h2 hx'
    refine ⟨F1, _, .adr x :: (ds ++ dds), _, e, h3.here, .cons rfl (((r1.ext x2).ext x3).append (hdd F1 _)), t1 x (hd1.free hx), fun F4 H4 μ4 d v hd4 r4 q4 => ?_, fun cls dd H' ⟨C, b, v, d, F', μ', h1, h2', h3', h4, h5, h6⟩ => ⟨C, b, v, d, F', μ', h1, h2', h3', (h3.back h4).1, h5, h6⟩⟩
    obtain ⟨rfl, q4⟩ := q4
    obtain rfl : v = .non := r4
    obtain ⟨p1, p2⟩ := h3.back hd4
    exact ⟨rfl, k F4 H4 μ4 (.adr x) (.ref x) (((e1.trans x2).trans x3).trans p2) p1 rfl q4⟩⟩
theorem de_make (M : Mk X.K C f) (F : FnG X.prog X.w X.K X.mg X.base k f fd ps (LSp X.K c)) (hr : Room (k + 1) X.A) (hgd : X.A.guards = some []) (hg : Gl X x) (hm : X.mg x = some (.ref C)) (hb : Binds X.K fd ps ds) (hd : Vals dvs ds) (hdd : ∀ F H, RepL X.K F H dds dvs) (hx : Passes (CX X.prog X.w) X (LX X.K O e))
    (ha : DA O X (a :: es) t) (hdb : (x == ("__debug__" : Str)) = false := by decide) (he : starEach (a :: es) X.env = (false, eval a X.env) :: starEach es X.env := by rfl) (hpl : (backTo pos (starEach es X.env)).any (·.1) = false := by rfl) :
    DE O X (.Call (.Name x p) (a :: es) [] pos) (dMake C c e dds t) := pe_weak (pe_makeG M F hr hgd hg hm hb hd hx ha hdb he hpl) (lmake hdd)
end
end DL

namespace DL
open PySem L2
/-! properties and methods -/
/-- an object of C, whatever it holds -/
def isObj (C : Addr) (μ : Mu) : D → Prop
  | .ins C' _ _ => C' = C
  | .adr p => ∃ ns l, μ p = some (.obj C ns l)
  | _ => False
/-- .. that has no field m -/
def noFld (C : Addr) (m : Str) (μ : Mu) : D → Prop
  | .ins C' ns _ => C' = C ∧ m ∉ ns
  | .adr p => ∃ ns l, μ p = some (.obj C ns l) ∧ m ∉ ns
  | _ => False
theorem zip_none {m : Str} : ∀ {ns : List Str} {vs : List V}, m ∉ ns → (ns.zip vs).lookup m = none
  | [], _, _ => by simp
  | _ :: _, [], _ => by simp
  | n :: ns, v :: vs, h => by
    rw [List.zip_cons_cons, List.lookup_cons]
    have : (m == n) = false := beq_eq_false_iff_ne.mpr fun z => h (z ▸ List.mem_cons_self)
    rw [this]
    exact zip_none fun z => h (List.mem_cons_of_mem _ z)
def dProp (C : Addr) (c : DSp) (te : DTE) : DTE := fun δ μ q => te δ μ fun x μ1 => isObj C μ1 x ∧ c [x] μ1 q eN
def dMeth (C : Addr) (m : Str) (c : DSp) (e : DX) (te : DTE) (t : DTA) : DTE := fun δ μ q => te δ μ fun x μ1 => noFld C m μ1 x ∧ t δ μ1 fun ds μ2 => c (x :: ds) μ2 q e
section
variable {O : Org} {X : Cx} {k : Nat} {f C pr g : Addr} {fd : FuncData} {ps : List Str} {sp : Sp} {E : XK} {x m fl : Str} {p pos apos : Pos} {a o : Expr} {es : List Expr} {te : DTE} {t : DTA} {c : DSp} {e : DX} {K : PySem.W.Frag}
theorem obj_at {F : Zo} {H : Hp} {μ : Mu} {d : D} {v : V} (hd : Hd K O F H μ) (r : Rep K F H d v) (h : isObj C μ d) : ∃ a dx fs, v = .ref a ∧ H a = some (.ins C dx fs) := by
  cases d <;> first | exact False.elim h | skip
  · obtain ⟨ns, l, hm⟩ := h
    obtain ⟨_, dx, vs, h1, _⟩ := hd.own _ _ hm
    exact ⟨_, dx, _, r, h1⟩
  · obtain rfl := h
    obtain ⟨a, dx, vs, rfl, ⟨_, h1⟩, _⟩ := r
    exact ⟨a, dx, _, rfl, h1⟩
theorem obj_no {F : Zo} {H : Hp} {μ : Mu} {d : D} {v : V} (hd : Hd K O F H μ) (r : Rep K F H d v) (h : noFld C m μ d) : ∃ a dx fs, v = .ref a ∧ H a = some (.ins C dx fs) ∧ fs.lookup m = none := by
  cases d <;> first | exact False.elim h | skip
  · obtain ⟨ns, l, hm, hn⟩ := h
    obtain ⟨_, dx, vs, h1, _⟩ := hd.own _ _ hm
    exact ⟨_, dx, _, r, h1, zip_none hn⟩
  · obtain ⟨rfl, hn⟩ := h
    obtain ⟨a, dx, vs, rfl, ⟨_, h1⟩, _⟩ := r
    exact ⟨a, dx, _, rfl, h1, zip_none hn⟩
theorem getprop_okG {a dx : Addr} {fs : List (Str × V)} {pins : List (Addr × Obj)} {σ : L2.St} {H : Hp} {s : Shared} {Q : VK} {b : Bool} {E' : Value → Shared → Prop} (I : Inv X pins σ H s) (ea : H a = some (.ins C dx fs)) (cc : Cls X.K C) (hp : PropOf X.K C fl pr g)
    (F : FnG X.prog X.w X.K X.mg X.base k g fd ps sp) (hr : Room (k + 1) X.A) (hgd : X.A.guards = some []) (hb : Binds X.K fd ps []) (hx : Passes (CX X.prog X.w) X.nox E) (h : sp [.ref a] H Q E) :
    wpAny (model X.prog X.w) X.A (getAttr (.ref a) fl b) (EP X pins σ Q) E' s := by
  obtain ⟨mA, Ob, _, _, _, _⟩ := ins_get I.hok ea
  obtain ⟨od, J, _⟩ := Ob.look
  obtain ⟨rest, hrec⟩ := hp.rec_
  have I1 := I.tok (s.toks + 1)
  have hl : ([Value.ref a] ++ []).length = ps.length := F.len _ _ _ _ h
  have hc : (PySem.W.clsIn X.K C).isSome = true := by
    obtain ⟨cd, hc, _⟩ := PySem.W.any_some cc.hd
    rw [hc]
    rfl
  refine PySem.W.get_bind I.kIn J (PySem.W.plainGet_of (cc.get fl)).1 (PySem.W.findObj_data hc hp.at_ hp.get hp.tak) (PySem.W.plainGet_of (cc.get fl)).2 (wpAny_call (PySem.W.prop_get (s := { s with toks := s.toks + 1 }) I.kIn hrec ?_))
  refine codeAny_mono (F.run X.A.in1 X.stack { s with toks := s.toks + 1 } H ⟨[.ref a], []⟩ [.ref a] [.ref a] Q E hr.in1 hgd I1.env0.in1 (hb _ [.ref a] I1.kIn hl) (.cons rfl .nil) h) ?_
  intro res s2 end2
  match res, end2 with
  | .error er, end2 => exact False.elim (hx pins σ H { s with toks := s.toks + 1 } er s2 (I1.wish _) end2)
  | .ok (.ret u), end2 =>
    obtain ⟨v, H', I3, rv, q3⟩ := I1.after end2
    show wpAny _ _ (handedOut u) _ _ _
    rw [PySem.W.handedOut_of (handed_of rv)]
    exact wpAny_pure ⟨v, H', I3, rv, q3⟩
theorem pe_propG {ta : TE} (he : PE X a ta) (cc : Cls X.K C) (hp : PropOf X.K C fl pr g) (F : FnG X.prog X.w X.K X.mg X.base k g fd ps sp) (hr : Room (k + 1) X.A) (hgd : X.A.guards = some []) (hb : Binds X.K fd ps []) (hx : Passes (CX X.prog X.w) X.nox E)
    (hab : attributeBase a fl X.env (eval a X.env) = eval a X.env) : PE X (.Attribute a fl pos) (tProp C sp [] E ta) := by
  refine ⟨fun pins s σ H Q I h => ?_⟩
  refine attr_of hab (thn (he.run pins s σ H _ I h) ?_)
  rintro u s1 ⟨x, H1, I1, rx, a, dx, fs, ex, ea, q⟩
  subst ex
  obtain rfl : u = Value.ref a := rx
  exact getprop_okG I1 ea cc hp F hr hgd hb hx q
theorem de_prop (cc : Cls X.K C) (hp : PropOf X.K C fl pr g) (F : FnG X.prog X.w X.K X.mg X.base k g fd ps (LSp X.K c)) (hr : Room (k + 1) X.A) (hgd : X.A.guards = some []) (hb : Binds X.K fd ps []) (he : DE O X a te)
    (hab : attributeBase a fl X.env (eval a X.env) = eval a X.env := by rfl) : DE O X (.Attribute a fl pos) (dProp C c te) :=
  pe_weak (pe_propG (E := LX X.K O eN) he cc hp F hr hgd hb (fun pins σ H s e s' I h => (passesN (X := X.nox) (O := O) pins σ H s e s' I h)) hab) fun σ H Q ⟨F, δ, μ, q, hd, rs, t, k⟩ => ⟨F, δ, μ, _, hd, rs, t, fun F1 H1 μ1 x v e1 hd1 r1 ⟨ho, t1⟩ => by
    obtain ⟨a, dx, fs, rfl, h1⟩ := obj_at hd1 r1 ho
    refine ⟨a, dx, fs, rfl, h1, F1, μ1, [x], q, eN, hd1.here, .cons r1 RepL.nil, t1, fun F2 H2 μ2 d v hd2 r2 q2 => ?_, fun cls dd H' ⟨C, b, v, d, F', μ', h1, h2, h3, h4, h5, h6⟩ => h6.elim⟩
    obtain ⟨p1, p2⟩ := hd1.back hd2
    exact k F2 H2 μ2 d v (e1.trans p2) p1 r2 q2⟩
theorem pe_methG {pl : Sem Bool} {ta : TE} {t : TA} (he : PE X o ta) (cc : Cls X.K C) (hm : Meth X.K C m f) (F : FnG X.prog X.w X.K X.mg X.base k f fd ps sp) (hr : Room k X.A) (hgd : X.A.guards = some []) (hb : Binds X.K fd ps []) (hx : Passes (CX X.prog X.w) X E) (ha : PA X (a :: es) t)
    (hst : starEach (a :: es) X.env = (false, eval a X.env) :: starEach es X.env) (hpl : (backTo pos (starEach es X.env)).any (·.1) = false)
    (ht : eval (.Call (.Attribute o m apos) (a :: es) [] pos) X.env = (do
      let ov ← eval o X.env
      standAt apos.atName
      let (f, first) ← holding [ov] (getMethod ov m pl)
      callWith pos f first (backTo pos (starEach (a :: es) X.env)) (backToKw pos (keywordEach [] X.env)))) :
    PE X (.Call (.Attribute o m apos) (a :: es) [] pos) (tMeth C m sp [] E ta t) := by
  constructor
  intro pins s σ H Q I h
  refine PySem.W.methodCall_KW (pl := pl) (thn (he.run pins s σ H _ I h) ?_) ht
  rintro u s1 ⟨x, H1, I1, rx, a0, dx, fs, ex, ea, l, q⟩
  subst ex
  obtain rfl : u = Value.ref a0 := rx
  refine getmeth_ok I1 ea cc hm l ?_
  refine PySem.W.callWith_K (first := [.ref a0]) (h₀ := X.base) I.ok.mod.kin hm.kp (thn (ha.run pos pins s1 σ H1 _ I1 q) ?_) hst hpl
  rintro us s2 ⟨vs, H2, I2, r, q2⟩
  exact ⟨I2.kIn, run_fnG (us := .ref a0 :: us) (vs := .ref a0 :: vs) (dvs := []) (ds := []) F hr hgd hb .nil hx I2 (.cons rfl r) q2⟩
theorem de_meth {pl : Sem Bool} (cc : Cls X.K C) (hm : Meth X.K C m f) (F : FnG X.prog X.w X.K X.mg X.base k f fd ps (LSp X.K c)) (hr : Room k X.A) (hgd : X.A.guards = some []) (hb : Binds X.K fd ps []) (hx : Passes (CX X.prog X.w) X (LX X.K O e)) (he : DE O X o te) (ha : DA O X (a :: es) t)
    (hst : starEach (a :: es) X.env = (false, eval a X.env) :: starEach es X.env := by rfl) (hpl : (backTo pos (starEach es X.env)).any (·.1) = false := by rfl)
    (ht : eval (.Call (.Attribute o m apos) (a :: es) [] pos) X.env = (do
      let ov ← eval o X.env
      standAt apos.atName
      let (f, first) ← holding [ov] (getMethod ov m pl)
      callWith pos f first (backTo pos (starEach (a :: es) X.env)) (backToKw pos (keywordEach [] X.env))) := by rfl) :
    DE O X (.Call (.Attribute o m apos) (a :: es) [] pos) (dMeth C m c e te t) :=
  pe_weak (pe_methG he cc hm F hr hgd hb hx ha hst hpl ht) fun σ H Q ⟨F, δ, μ, q, hd, rs, t, k⟩ => ⟨F, δ, μ, _, hd, rs, t, fun F1 H1 μ1 x v e1 hd1 r1 ⟨ho, t1⟩ => by
    obtain ⟨a0, dx, fs, rfl, h1, hn⟩ := obj_no hd1 r1 ho
    refine ⟨a0, dx, fs, rfl, h1, hn, F1, δ, μ1, _, hd1, rs.ext e1, t1, fun F2 H2 μ2 ds vs e2 hd2 r2 t2 => ?_⟩
    show LSp X.K c (V.ref a0 :: (vs ++ [])) H2 Q (LX X.K O e)
    rw [List.append_nil]
    refine ⟨F2, μ2, x :: ds, q, e, hd2.here, .cons (r1.ext e2) r2, t2, fun F3 H3 μ3 d v hd3 r3 q3 => ?_, fun cls dd H' ⟨C, b, v, d, F', μ', h1, h2, h3, h4, h5, h6⟩ => ⟨C, b, v, d, F', μ', h1, h2, h3, (hd2.back h4).1, h5, h6⟩⟩
    obtain ⟨p1, p2⟩ := hd2.back hd3
    exact k F3 H3 μ3 d v ((e1.trans e2).trans p2) p1 r3 q3⟩
end
end DL

namespace DL
open PySem L2
/-! C(..), read alone afterwards: frozen at once -/
def dMakeZ (C : Addr) (c : DSp) (e : DX) (dds : List D) (t : DTA) : DTE := fun δ μ q => t δ μ fun ds μ1 => ∀ p, μ1 p = none → c (.adr p :: (ds ++ dds)) (updM μ1 p (.obj C [] [])) (fun d μ2 => d = .non ∧ ∃ ns l, μ2 p = some (.obj C ns l) ∧ q (.ins C ns l) (delM μ2 p)) e
section
variable {O : Org} {X : Cx} {k : Nat} {f C : Addr} {fd : FuncData} {ps : List Str} {sp : Sp} {dvs : List V} {ds : List Value} {E : XK} {x : Str} {p pos : Pos} {a : Expr} {es : List Expr} {t : DTA} {c : DSp} {e : DX} {dds : List D}
theorem lmakeZ {K : PySem.W.Frag} (hdd : ∀ F H, RepL K F H dds dvs) : ∀ σ H Q, LE K O (dMakeZ C c e dds t) σ H Q → tMake C (LSp K c) dvs (LX K O e) (LA K O t) σ H Q := fun σ H Q ⟨F, δ, μ, q, hd, rs, t, k⟩ =>
  ⟨F, δ, μ, _, hd, rs, t, fun F1 H1 μ1 ds vs e1 hd1 r1 t1 x dx hx hdx hne => by
    have hx' : upd H1 dx (.own x) x = none := by rw [upd_ne (Ne.symm hne)]; exact hx
    have h2 := hd1.lay (o := .own x) hdx
    have x2 := ext_new (o := HO.own x) hd1 hdx
    have h3 := h2.newM (o := .ins C dx []) (m := .obj C [] []) hx' ⟨dx, [], upd_same, rfl, RepL.nil⟩
    have x3 := ext_new (o := HO.ins C dx []) h2 hx'
    refine ⟨F1, _, .adr x :: (ds ++ dds), _, e, h3.here, .cons rfl (((r1.ext x2).ext x3).append (hdd F1 _)), t1 x (hd1.free hx), fun F4 H4 μ4 d v hd4 r4 q4 => ?_, fun cls dd H' ⟨C, b, v, d, F', μ', h1, h2', h3', h4, h5, h6⟩ => ⟨C, b, v, d, F', μ', h1, h2', h3', (h3.back h4).1, h5, h6⟩⟩
    obtain ⟨rfl, ns, l, hm, q4⟩ := q4
    obtain rfl : v = .non := r4
    obtain ⟨p1, p2⟩ := h3.back hd4
    obtain ⟨_, dx', vs', w1, w2, w3⟩ := p1.own x _ hm
    obtain ⟨z1, z2⟩ := p1.frz hm
    exact ⟨rfl, k _ H4 _ (.ins C ns l) (.ref x) ((((e1.trans x2).trans x3).trans p2).trans z2) z1 ⟨x, dx', vs', rfl, ⟨.inr rfl, w1⟩, w2, w3.ext z2⟩ q4⟩⟩
theorem de_makeZ (M : Mk X.K C f) (F : FnG X.prog X.w X.K X.mg X.base k f fd ps (LSp X.K c)) (hr : Room (k + 1) X.A) (hgd : X.A.guards = some []) (hg : Gl X x) (hm : X.mg x = some (.ref C)) (hb : Binds X.K fd ps ds) (hd : Vals dvs ds) (hdd : ∀ F H, RepL X.K F H dds dvs) (hx : Passes (CX X.prog X.w) X (LX X.K O e))
    (ha : DA O X (a :: es) t) (hdb : (x == ("__debug__" : Str)) = false := by decide) (he : starEach (a :: es) X.env = (false, eval a X.env) :: starEach es X.env := by rfl) (hpl : (backTo pos (starEach es X.env)).any (·.1) = false := by rfl) :
    DE O X (.Call (.Name x p) (a :: es) [] pos) (dMakeZ C c e dds t) := pe_weak (pe_makeG M F hr hgd hg hm hb hd hx ha hdb he hpl) (lmakeZ hdd)
end
end DL

set_option Elab.async false
set_option linter.all false
set_option maxRecDepth 100000
/-! DT: dicts of the top, by written keys -/
namespace DL
open PySem L2
structure KdTab (K : PySem.W.Frag) (w : World) (mg : Str → Option Value) (x : Str) (d : Addr) (tab : List (Str × D)) (miss : List Str) : Prop where
  nm : mg x = some (.ref d)
  kd : ∃ es n, KDict K w d es n
  hit : ∀ z e, tab.lookup z = some e → ∃ u v, PySem.W.nsIn K d z = some (some u) ∧ RelV v u ∧ ∀ F H, Rep K F H e v
  no : ∀ z, z ∈ miss → PySem.W.nsIn K d z = some none
def rKdIn (neg : Bool) (d : Addr) (tab : List (Str × D)) (miss : List Str) : DR2 := fun x y μ q => match x, y with
  | .str z, .adr d' => d' = d ∧ ((∃ e, tab.lookup z = some e ∧ q (.bl (!neg)) μ) ∨ (z ∈ miss ∧ q (.bl neg) μ))
  | _, _ => False
def rKdIx (d : Addr) (tab : List (Str × D)) : DR2 := fun x y μ q => match x, y with
  | .adr d', .str z => d' = d ∧ ∃ e, tab.lookup z = some e ∧ q e μ
  | _, _ => False
section
variable {O : Org} {X : Cx} {x : Str} {d : Addr} {tab : List (Str × D)} {miss : List Str} {pos : Pos} {a b : Expr} {ta tb : DTE}
theorem de_glob (T : KdTab X.K X.w X.mg x d tab miss) (hg : Gl X x) (hd : (x == ("__debug__" : Str)) = false := by decide) : DE O X (.Name x pos) (dC (.adr d)) :=
  de_of_c (pe_glob (v := .ref d) hg T.nm rfl hd) fun _ _ => rfl
theorem od_kdIn (T : KdTab X.K X.w X.mg x d tab miss) : OpD X.K (fun x y H Q => ∃ (z : Str) (r : Option Value), x = .str z ∧ y = .ref d ∧ PySem.W.nsIn X.K d z = some r ∧ Q (.bl r.isSome) H) (rKdIn false d tab miss) := by
  intro O F H μ x y v w q Q hd rx ry t k
  match x, y, t, rx, ry with
  | .str z, .adr d', ⟨e0, t1⟩, rx, ry =>
  obtain rfl : v = .str z := rx
  obtain rfl : w = .ref d' := ry
  subst e0
  rcases t1 with ⟨e, h1, t2⟩ | ⟨h1, t2⟩
  · obtain ⟨u, v, h2, _, _⟩ := T.hit z e h1
    exact ⟨z, some u, rfl, rfl, h2, k F H μ (.bl true) _ (Ext.refl F H) hd rep_bl t2⟩
  · exact ⟨z, none, rfl, rfl, T.no z h1, k F H μ (.bl false) _ (Ext.refl F H) hd rep_bl t2⟩
theorem od_kdNotIn (T : KdTab X.K X.w X.mg x d tab miss) : OpD X.K (fun x y H Q => ∃ (z : Str) (r : Option Value), x = .str z ∧ y = .ref d ∧ PySem.W.nsIn X.K d z = some r ∧ Q (.bl (!r.isSome)) H) (rKdIn true d tab miss) := by
  intro O F H μ x y v w q Q hd rx ry t k
  match x, y, t, rx, ry with
  | .str z, .adr d', ⟨e0, t1⟩, rx, ry =>
  obtain rfl : v = .str z := rx
  obtain rfl : w = .ref d' := ry
  subst e0
  rcases t1 with ⟨e, h1, t2⟩ | ⟨h1, t2⟩
  · obtain ⟨u, v, h2, _, _⟩ := T.hit z e h1
    exact ⟨z, some u, rfl, rfl, h2, k F H μ (.bl false) _ (Ext.refl F H) hd rep_bl t2⟩
  · exact ⟨z, none, rfl, rfl, T.no z h1, k F H μ (.bl true) _ (Ext.refl F H) hd rep_bl t2⟩
theorem ix_kd {es : Array DictEntry} {n : Nat} (D : KDict X.K X.w d es n) : IxR X (fun x y H Q => ∃ (z : Str) (u0 : Value) (v0 : V), x = .ref d ∧ y = .str z ∧ PySem.W.nsIn X.K d z = some (some u0) ∧ RelV v0 u0 ∧ Q v0 H) := by
  intro value slice pins s σ H x y v u Q I rx ry h hs
  have ht := kd_type D I
  have h2 := h
  obtain ⟨z, u0, v0, rfl, rfl, _⟩ := h2
  obtain rfl : v = Value.ref d := rx
  exact PyProof.Rows.tail_any ht PySem.slot_dict_getitem.lookup (op_item_kd D pins s σ H (.ref d) (.str z) (.ref d) u Q I rfl ry h) hs
theorem od_kdIx (T : KdTab X.K X.w X.mg x d tab miss) : OpD X.K (fun x y H Q => ∃ (z : Str) (u0 : Value) (v0 : V), x = .ref d ∧ y = .str z ∧ PySem.W.nsIn X.K d z = some (some u0) ∧ RelV v0 u0 ∧ Q v0 H) (rKdIx d tab) := by
  intro O F H μ x y v w q Q hd rx ry t k
  match x, y, t, rx, ry with
  | .adr d', .str z, ⟨e0, e, h1, t2⟩, rx, ry =>
  obtain rfl : w = .str z := ry
  obtain rfl : v = .ref d' := rx
  subst e0
  obtain ⟨u, v, h2, h3, h4⟩ := T.hit z e h1
  exact ⟨z, u, v, rfl, rfl, h2, h3, k F H μ e v (Ext.refl F H) hd (h4 F H) t2⟩
/-- X[word] -/
theorem de_kdIx (T : KdTab X.K X.w X.mg x d tab miss) (ha : DE O X a ta) (hb : DE O X b tb) (hs : PlainIx b := by exact fun _ _ => rfl) : DE O X (.Subscript a b pos) (dOp (rKdIx d tab) ta tb) := by
  obtain ⟨es, n, D⟩ := T.kd
  exact pe_weak (pe_ix (ix_kd D) ha hb hs) (lop (od_kdIx T))
end
end DL

set_option Elab.async false
set_option linter.all false
set_option maxRecDepth 100000
/-! DB: all, any; enumerate, zip -/
namespace DL
open PySem L2
section
variable {K : PySem.W.Frag} {F : Zo} {H : Hp} {O : Org} {μ : Mu}
theorem RepL.bools : ∀ {bs : List Bool} {vs : List V}, RepL K F H (bs.map D.bl) vs → vs = bs.map V.bl
  | [], _, h => h
  | b :: bs, _, ⟨v, r, e, h1, h2⟩ => by
    subst e
    obtain rfl : v = .bl b := h1
    rw [RepL.bools h2]; rfl
def rAllD : DC2 := fun ds μ q => match ds with | [d] => ∃ bs : List Bool, lstOf μ d = some (bs.map D.bl) ∧ q (.bl (bs.all id)) μ | _ => False
def rAnyD : DC2 := fun ds μ q => match ds with | [d] => ∃ bs : List Bool, lstOf μ d = some (bs.map D.bl) ∧ q (.bl (bs.any id)) μ | _ => False
theorem cd_all : CallD K (rAll K) rAllD := by
  intro O F H μ ds vs q Q hd rs t k
  unfold rAllD at t
  split at t
  · rename_i d
    obtain ⟨v, rfl, h1⟩ := repL1 rs
    obtain ⟨ns, e, t⟩ := t
    obtain ⟨a, us, rfl, h2, h3⟩ := list_sq hd h1 e
    obtain rfl := h3.bools
    exact ⟨a, ns, rfl, h2, k F H μ _ _ (Ext.refl F H) hd rep_bl t⟩
  · exact t.elim
theorem cd_any : CallD K (rAny K) rAnyD := by
  intro O F H μ ds vs q Q hd rs t k
  unfold rAnyD at t
  split at t
  · rename_i d
    obtain ⟨v, rfl, h1⟩ := repL1 rs
    obtain ⟨ns, e, t⟩ := t
    obtain ⟨a, us, rfl, h2, h3⟩ := list_sq hd h1 e
    obtain rfl := h3.bools
    exact ⟨a, ns, rfl, h2, k F H μ _ _ (Ext.refl F H) hd rep_bl t⟩
  · exact t.elim
/-- number and item -/
def enumD : Nat → List D → List D
  | _, [] => []
  | i, x :: l => .tup [.int (i : Nat), x] :: enumD (i + 1) l
theorem enumD_len : ∀ (k : Nat) (l : List D), (enumD k l).length = l.length
  | _, [] => rfl
  | k, x :: l => by rw [enumD, List.length_cons, List.length_cons, enumD_len]
theorem enumD_get : ∀ {k i : Nat} {l : List D} {x : D}, l[i]? = some x → (enumD k l)[i]? = some (.tup [.int ((k + i : Nat) : Int), x])
  | _, _, [], _, h => by simp at h
  | k, 0, y :: l, x, h => by
    simp at h; subst h
    rfl
  | k, i + 1, y :: l, x, h => by
    rw [enumD, List.getElem?_cons_succ, enumD_get (k := k + 1) (i := i) (by simpa using h), show k + 1 + i = k + (i + 1) by omega]
theorem itok_enum {items : List D} {a : Addr} {vs : List V} (hr : RepL K F H items vs)
    (st : ∀ F2 H2 μ2, Ext F H F2 H2 → Hd K O F2 H2 μ2 → SqL K H2 a vs) : ItOk K O F H (enumD 0 items) (fun _ => True) (Ite K a) := by
  have hlen := hr.length
  refine ⟨fun i F2 H2 μ2 e hd _ h => ?_, fun i F2 H2 μ2 x H3 e hd _ h hy => ?_, fun i F2 H2 μ2 e hd _ h => ?_⟩
  · rw [enumD_len] at h
    have hl : i < vs.length := by omega
    exact ⟨vs, vs[i], st F2 H2 μ2 e hd, by simp [hl]⟩
  · rw [enumD_len] at h
    obtain ⟨T, y, rfl, hT, rfl, hx⟩ := hy
    obtain ⟨d, e1, e2⟩ := (hr.ext e).get' (hx vs (st F2 H2 μ2 e hd))
    refine ⟨_, .tup [.int (i : Nat), d], ext_newF hd hT, hd.newF hT, ?_, ⟨T, _, rfl, .inl ⟨.inr rfl, .inl upd_same⟩, .cons rfl (.cons (e2.ext (ext_newF hd hT)) RepL.nil)⟩⟩
    have := enumD_get (k := 0) e1
    rwa [Nat.zero_add] at this
  · rw [enumD_len] at h
    exact ⟨vs, st F2 H2 μ2 e hd, by omega⟩
end
/-- enumerate of a list that stands -/
def diEnum (te : DTA) : DTI := fun δ μ q => te δ μ fun ds μ1 => match ds with
  | [.lst l] => q (enumD 0 l) (fun _ => True) μ1
  | [.rol l] => q (enumD 0 l) (fun _ => True) μ1
  | _ => False
section
variable {O : Org} {X : Cx} {e : Expr} {t : DTA} {pos p tpos : Pos} {elts : List Expr} {kk : Nat}
theorem di_enum (hg : Gl X "enumerate") (hm : X.mg "enumerate" = none) (ha : DA O X [e] t) (hs : starEach [e] X.env = [(false, eval e X.env)] := by rfl) :
    DI O X (.Tuple elts kk tpos) (.Call (.Name "enumerate" p) [e] [] pos) (diEnum t) :=
  pi_weak (pi_enum hg hm ha hs) fun σ H R ⟨F, δ, μ, q, hd, rs, t, k⟩ => ⟨F, δ, μ, _, hd, rs, t, fun F1 H1 μ1 ds vs e1 hd1 r1 t1 => by
    match ds, t1, r1 with
    | [.lst l], t1, r1 =>
      obtain ⟨v, rfl, h1⟩ := repL1 r1
      obtain ⟨a, us, rfl, h2, h3⟩ := h1
      exact ⟨a, us, rfl, SqL.of h2.2, k F1 H1 μ1 _ _ _ e1 hd1 (itok_enum h3 fun F2 H2 μ2 e2 hd2 => SqL.of ((e2.hf h2.1).trans h2.2)) t1⟩
    | [.rol l], t1, r1 =>
      obtain ⟨v, rfl, h1⟩ := repL1 r1
      obtain ⟨a, us, rfl, h2, h3⟩ := h1
      exact ⟨a, us, rfl, h2.sq, k F1 H1 μ1 _ _ _ e1 hd1 (itok_enum h3 fun F2 H2 μ2 e2 hd2 => (h2.ext e2).sq) t1⟩⟩
end
end DL

set_option Elab.async false
set_option linter.all false
set_option maxRecDepth 100000
/-! DS: whole numbers of the module by name; len(set(whole numbers)); list * n -/
namespace DL
open PySem L2 PySem.Spec PyProof.Rows
theorem de_gint {O : Org} {X : Cx} {x : Str} {i : Int} {pos : Pos} (hg : Gl X x) (hm : ∃ t, X.mg x = some (.int i t)) (hd : (x == ("__debug__" : Str)) = false := by decide) : DE O X (.Name x pos) (dC (.int i)) := by
  obtain ⟨t, hm⟩ := hm
  exact de_of_c (pe_glob (v := .int i) hg hm ⟨t, rfl⟩ hd) fun _ _ => rfl
/-! ### len(set(xs)) -/
theorem firstMet_nd (val : Nat → Int) : ∀ i, (firstMet val i).Nodup
  | 0 => by rw [firstMet_zero]; exact List.nodup_nil
  | i + 1 => by
    rw [firstMet_succ]
    have ih := firstMet_nd val i
    unfold step_dedup
    split
    · exact ih
    · rename_i h
      rw [List.nodup_append]
      refine ⟨ih, by simp, fun a ha b hb => ?_⟩
      obtain rfl : b = val i := by simpa using hb
      intro e
      subst e
      exact h (List.any_eq_true.mpr ⟨_, ha, beq_self_eq_true _⟩)
theorem firstMet_mem (val : Nat → Int) (i : Nat) (k : Int) : k ∈ firstMet val i ↔ ∃ j, j < i ∧ val j = k := by
  have h := firstMet_any val i k
  rw [Bool.eq_iff_iff] at h
  simp only [List.any_eq_true, beq_iff_eq, exists_eq_right, List.mem_map, List.mem_range] at h
  exact h
theorem getD_mem {ns : List Int} {k : Int} : (∃ j, j < ns.length ∧ ns.getD j 0 = k) ↔ k ∈ ns := by
  constructor
  · rintro ⟨j, hj, rfl⟩
    rw [List.getD_eq_getElem?_getD, List.getElem?_eq_getElem hj]
    exact List.getElem_mem hj
  · intro h
    obtain ⟨j, hj, e⟩ := List.getElem_of_mem h
    exact ⟨j, hj, by rw [List.getD_eq_getElem?_getD, List.getElem?_eq_getElem hj]; exact e⟩
def tLenSetD (K : PySem.W.Frag) (ta : TE) : TE := fun σ H Q => ta σ H fun x H1 => ∃ (l : Addr) (ns : List Int), x = .ref l ∧ SqL K H1 l (ns.map V.int) ∧ ns.length ≤ 4000 ∧ ∀ out : List Int, out.Nodup → (∀ k, k ∈ out ↔ k ∈ ns) → out.length ≤ ns.length → Q (.int (out.length : Nat)) H1
theorem pe_lenSetD {X : Cx} {a : Expr} {ta : TE} {p p2 q pos : Pos} (hg : Gl X "len") (hm : X.mg "len" = none) (hg2 : Gl X "set") (hm2 : X.mg "set" = none) (ha : PE X a ta) (hc : X.calm = true)
    (na : starEach [a] X.env = (false, eval a X.env) :: starEach [] X.env) : PE X (.Call (.Name "len" p) [.Call (.Name "set" p2) [a] [] q] [] pos) (tLenSetD X.K ta) := by
  refine ⟨fun pins s σ H Q I h => ?_⟩
  refine Call_ (ld_blt I hg hm boot_len ?_)
  refine PyProof.Rows.callWith_builtin1 (PyProof.Rows.args_cons ?_ rfl) rfl rfl
  refine Call_ (ld_blt I hg2 hm2 boot_set ?_)
  refine PyProof.Rows.callWith_type1 (PyProof.Rows.args_cons (thn (ha.run pins s σ H _ I h) fun v s1 ⟨x, H1, I1, r1, q1⟩ => PyProof.Rows.args_nil ?_) na) na rfl
  obtain ⟨l, ns, rfl, hq, hl, q1⟩ := q1
  cases r1
  obtain ⟨its, r, pl, hz⟩ := I1.list hq
  have hlen : its.toArray.size = ns.length := by rw [List.size_toArray, ← r.length, List.length_map]
  refine call_set_list (I1.ok.hd hc) pl.isList (by simpa using RZ.intsAre_vals r) (by rw [hlen]; unfold scanBound; omega) fun h' tk hS hk => ?_
  refine PyProof.Rows.args_nil ?_
  rw [hlen] at hS
  have hle := firstMet_length_le (fun i => ns.getD i 0) ns.length
  obtain ⟨o, es, ep, t, ho, hex, hd, _, _, _, hf, hn⟩ := hS
  have I2 : Inv X pins σ H1 { s1 with heap := h', toks := tk } := I1.kept fun b o e => hk b o (Heap.lt_size e) e
  exact call_len_set ho hex hd hf (by rw [hn] <;> omega) ⟨.int ((firstMet (fun i => ns.getD i 0) ns.length).length : Nat), H1, I2.tok _, ⟨_, by rw [hn]⟩, q1 _ (firstMet_nd _ _) (fun k => (firstMet_mem _ _ k).trans getD_mem) hle⟩
def dLenSet (ta : DTE) : DTE := fun δ μ q => ta δ μ fun x μ1 => ∃ ns : List Int, lstOf μ1 x = some (ns.map D.int) ∧ ns.length ≤ 4000 ∧ ∀ out : List Int, out.Nodup → (∀ k, k ∈ out ↔ k ∈ ns) → out.length ≤ ns.length → q (.int (out.length : Nat)) μ1
theorem de_lenSet {O : Org} {X : Cx} {a : Expr} {ta : DTE} {p p2 p3 pos : Pos} (hg : Gl X "len") (hm : X.mg "len" = none) (hg2 : Gl X "set") (hm2 : X.mg "set" = none) (ha : DE O X a ta) (hc : X.calm = true := by rfl)
    (na : starEach [a] X.env = (false, eval a X.env) :: starEach [] X.env := by rfl) : DE O X (.Call (.Name "len" p) [.Call (.Name "set" p2) [a] [] p3] [] pos) (dLenSet ta) :=
  pe_weak (pe_lenSetD hg hm hg2 hm2 ha hc na) fun σ H Q ⟨F, δ, μ, q, hd, rs, t, k⟩ => ⟨F, δ, μ, _, hd, rs, t, fun F1 H1 μ1 x v e1 hd1 r1 ⟨ns, h1, h2, t1⟩ => by
    obtain ⟨a, vs, rfl, h3, h4⟩ := list_sq hd1 r1 h1
    obtain rfl := h4.ints
    exact ⟨a, ns, rfl, h3, h2, fun out o1 o2 o3 => k F1 H1 μ1 _ _ e1 hd1 rep_int (t1 out o1 o2 o3)⟩⟩
/-! ### xs * n -/
def rRepD : DR2 := fun x y μ q => match y with
  | .int k => ∃ l, catOf μ x = some l ∧ (-(2 ^ 63) ≤ k ∧ k < 2 ^ 63) ∧ l.length * k.toNat ≤ sizeLine ∧ q (.lst (List.replicate k.toNat l).flatten) μ
  | _ => False
theorem RepL.flat {K : PySem.W.Frag} {F : Zo} {H : Hp} {l : List D} {vs : List V} (r : RepL K F H l vs) : ∀ n : Nat, RepL K F H (List.replicate n l).flatten (List.replicate n vs).flatten
  | 0 => RepL.nil
  | n + 1 => by
    rw [List.replicate_succ, List.replicate_succ, List.flatten_cons, List.flatten_cons]
    exact r.append (RepL.flat r n)
theorem od_rep {K : PySem.W.Frag} : OpD K rRep rRepD := by
  intro O F H μ x y v w q Q hd rx ry t k
  cases y <;> first | exact False.elim t | skip
  rename_i n
  obtain rfl : w = .int n := ry
  obtain ⟨l, e1, t2, t3, t4⟩ := t
  obtain ⟨a, vs, rfl, h1, h2⟩ := list_cat hd rx e1
  have e2 := h2.length
  exact ⟨a, n, vs, rfl, rfl, h1, t2.1, t2.2, by rw [← e2]; exact t3, fun p hp => k _ _ μ (.lst _) (.ref p) (ext_newF hd hp) (hd.newF hp) ⟨p, _, rfl, ⟨.inr rfl, upd_same⟩, (h2.flat n.toNat).ext (ext_newF hd hp)⟩ t4⟩
theorem de_rep {O : Org} {X : Cx} {a b : Expr} {ta tb : DTE} {pos : Pos} (ha : DE O X a ta) (hb : DE O X b tb) : DE O X (.BinOp a .Mult b pos) (dOp rRepD ta tb) := de_op op_rep od_rep ha hb
end DL

set_option Elab.async false
set_option linter.all false
set_option maxRecDepth 100000
/-! DS2: for over a range with ends of any size -/
namespace DL
open PySem L2 PySem.Spec PyProof.Rows
theorem turn_long {P : Program} {w : World} {K : PySem.W.Frag} {tg : Expr} (it : Addr) (lo : Int) (n : Nat) : Turn P w K tg (Itr lo n) [it] it (fun i h => IsLongIter h it (lo + (i : Nat) * 1) ((n : Int) - (i : Nat)) 1) where
  mem := by simp
  obj := fun i h st b hb => by
    have e : b = it := by simpa using hb
    subst e
    exact ⟨_, st, fun v z => by
      have z' : Data.fields _ = Data.cell v := z
      cases z'⟩
  keep := fun i h h' st k => k it (by simp) _ st
  item := by
    intro X hP hw hK hc i pins s σ H E I hf st hg
    subst hP hw hK
    obtain ⟨f0, f1, f2, f3, f4, f5⟩ := hf it (by simp)
    have W := Walks.longrange (prog := X.prog) (w := X.w) (I.ok.hd hc) it lo 1 n
    refine W.item i s _ _ hg st fun v h' tk hv st' kk => ?_
    obtain ⟨t, rfl⟩ := hv
    have I1 : Inv X pins σ H { s with heap := h', toks := tk } := I.turned (fun b o hb e => kk b o (by simpa using hb) e) f0 f1 f3 f4 f5
    refine ⟨_, rfl, go_of (s := { s with heap := h', toks := tk }) (n := "longrange_iterator") st' rfl rfl (by decide) ⟨.int (lo + i), H, I1, ⟨t, ?_⟩, ⟨rfl, rfl⟩, st', fun b hb => (hf b hb).1⟩⟩
    rw [Int.mul_one]
  done := by
    intro X hP hw hK hc i pins s σ H E I hf st hg
    subst hP hw hK
    obtain ⟨f0, f1, f2, f3, f4, f5⟩ := hf it (by simp)
    exact wpAny_pyNext_long_end (I.ok.hd hc) st (by have : n ≤ i := hg; omega) fun h' eb => ⟨rfl, I.turned (t' := s.toks) (fun b o hb e => eb b o hb e) f0 f1 f3 f4 f5⟩
  self := fun _ _ _ _ _ st h => wpAny_pyIter_longiter st h
theorem range_itW {X : Cx} {tg : Expr} {pins : List (Addr × Obj)} {σ : L2.St} {H : Hp} {s : Shared} {R : It → Hp → Prop} {E : Value → Shared → Prop} {lo hi : Int} {t u v : Tok} {tk : Nat} (I : Inv X pins σ H s)
    (q : R (Itr lo (hi - lo).toNat) H) : wpAny (model X.prog X.w) X.A (pyIter (.ref s.heap.objs.size)) (PIE X pins σ tg R) E { s with heap := s.heap.push { cls := .type "range", data := .fields #[.int lo t, .int hi u, .int 1 v] }, toks := tk } := by
  have I1 : Inv X pins σ H { s with heap := s.heap.push { cls := .type "range", data := .fields #[.int lo t, .int hi u, .int 1 v] }, toks := tk } := I.kept fun b o e => Heap.get?_push_of_some _ e
  have e1 : lo + ((0 : Nat) : Int) * 1 = lo := by simp
  have e2 : (((hi - lo).toNat : Nat) : Int) - ((0 : Nat) : Int) = Builtin.Range.rangeSize lo hi 1 := by rw [rangeSize_one]; split <;> omega
  have fp : ∀ b ∈ [(s.heap.push { cls := .type "range", data := .fields #[.int lo t, .int hi u, .int 1 v] }).objs.size], FpOk X pins H b := fun b hb => by
    have e : b = (s.heap.push { cls := .type "range", data := .fields #[.int lo t, .int hi u, .int 1 v] }).objs.size := by simpa using hb
    subst e
    exact I1.fpOk (Nat.le_refl _) (I1.hok.fresh (Nat.le_refl _))
  by_cases hs : Builtin.Range.small lo hi 1 = true
  · refine wpAny_pyIter_range (IsRange.new ..) hs ?_
    refine ⟨_, _, _, _, H, rfl, I1.kept (t' := tk) fun b o e => Heap.get?_push_of_some _ e, turn_range _ lo (hi - lo).toNat, ?_, fp, q⟩
    show IsRangeIter _ _ (lo + ((0 : Nat) : Int) * 1) ((((hi - lo).toNat : Nat) : Int) - ((0 : Nat) : Int)) 1
    rw [e1, e2]
    exact Heap.get?_push_size _ rfl
  · refine wpAny_pyIter_longrange (IsRange.new ..) (by simpa using hs) ?_
    refine ⟨_, _, _, _, H, rfl, I1.kept (t' := tk) fun b o e => Heap.get?_push_of_some _ e, turn_long _ lo (hi - lo).toNat, ?_, fp, q⟩
    show IsLongIter _ _ (lo + ((0 : Nat) : Int) * 1) ((((hi - lo).toNat : Nat) : Int) - ((0 : Nat) : Int)) 1
    rw [e1, e2]
    exact Heap.get?_push_size _ rfl
def iRw1 (ta : TA) : TI := fun σ H R => ta σ H fun vs H1 => ∃ j : Int, vs = [.int j] ∧ R (Itr 0 j.toNat) H1
def iRw2 (ta : TA) : TI := fun σ H R => ta σ H fun vs H1 => ∃ i j : Int, vs = [.int i, .int j] ∧ R (Itr i (j - i).toNat) H1
section
variable {O : Org} {X : Cx} {tg a b : Expr} {ta : TA} {t : DTA} {p pos : Pos}
theorem pi_rw1 (hg : Gl X "range") (hm : X.mg "range" = none) (ha : PA X [a] ta) (hs : starEach [a] X.env = [(false, eval a X.env)] := by rfl) : PI X tg (.Call (.Name "range" p) [a] [] pos) (iRw1 ta) := by
  refine ⟨fun pins s σ H R I h => ?_⟩
  refine Call_ (ld_blt I hg hm boot_range (PyProof.Rows.callWith_type1 (thn (ha.run pos pins s σ H _ I h) fun us s1 ⟨vs, H1, I1, r1, q1⟩ => ?_) hs rfl))
  obtain ⟨j, e, q⟩ := q1
  subst e
  cases r1 with
  | cons r rr =>
    cases rr
    obtain ⟨t, rfl⟩ := r
    exact call_range_1 (range_itW I1 (by simpa using q))
theorem pi_rw2 (hg : Gl X "range") (hm : X.mg "range" = none) (ha : PA X [a, b] ta) (hs : starEach [a, b] X.env = [(false, eval a X.env), (false, eval b X.env)] := by rfl) (hs2 : starEach [b] X.env = [(false, eval b X.env)] := by rfl) :
    PI X tg (.Call (.Name "range" p) [a, b] [] pos) (iRw2 ta) := by
  refine ⟨fun pins s σ H R I h => ?_⟩
  refine Call_ (ld_blt I hg hm boot_range (PyProof.Rows.callWith_type1 (thn (ha.run pos pins s σ H _ I h) fun us s1 ⟨vs, H1, I1, r1, q1⟩ => ?_) (by rw [hs, hs2]) (by rw [hs2]; rfl)))
  obtain ⟨i, j, e, q⟩ := q1
  subst e
  cases r1 with
  | cons r rr =>
    cases rr with
    | cons r' rr =>
      cases rr
      obtain ⟨t, rfl⟩ := r
      obtain ⟨t', rfl⟩ := r'
      exact call_range_2 (range_itW I1 q)
def diRw1 (ta : DTA) : DTI := fun δ μ q => ta δ μ fun ds μ1 => match ds with | [.int j] => q (intsD 0 j.toNat) (fun _ => True) μ1 | _ => False
def diRw2 (ta : DTA) : DTI := fun δ μ q => ta δ μ fun ds μ1 => match ds with | [.int i, .int j] => q (intsD i (j - i).toNat) (fun _ => True) μ1 | _ => False
theorem di_rw1 (hg : Gl X "range") (hm : X.mg "range" = none) (ha : DA O X [a] t) (hs : starEach [a] X.env = [(false, eval a X.env)] := by rfl) : DI O X tg (.Call (.Name "range" p) [a] [] pos) (diRw1 t) :=
  pi_weak (pi_rw1 hg hm ha hs) fun σ H R ⟨F, δ, μ, q, hd, rs, t, k⟩ => ⟨F, δ, μ, _, hd, rs, t, fun F1 H1 μ1 ds vs e1 hd1 r1 t1 => by
    match ds, t1 with
    | [.int j], t1 =>
      obtain ⟨v, r', rfl, h1, h2⟩ := r1
      obtain rfl : v = .int j := h1
      obtain rfl : r' = [] := h2
      exact ⟨j, rfl, k F1 H1 μ1 _ _ _ e1 hd1 (itok_range 0 j.toNat) t1⟩⟩
theorem di_rw2 (hg : Gl X "range") (hm : X.mg "range" = none) (ha : DA O X [a, b] t) (hs : starEach [a, b] X.env = [(false, eval a X.env), (false, eval b X.env)] := by rfl) (hs2 : starEach [b] X.env = [(false, eval b X.env)] := by rfl) :
    DI O X tg (.Call (.Name "range" p) [a, b] [] pos) (diRw2 t) :=
  pi_weak (pi_rw2 hg hm ha hs hs2) fun σ H R ⟨F, δ, μ, q, hd, rs, t, k⟩ => ⟨F, δ, μ, _, hd, rs, t, fun F1 H1 μ1 ds vs e1 hd1 r1 t1 => by
    match ds, t1 with
    | [.int i, .int j], t1 =>
      obtain ⟨v, w, rfl, h1, h2⟩ := repL2 r1
      obtain rfl : v = .int i := h1
      obtain rfl : w = .int j := h2
      exact ⟨i, j, rfl, k F1 H1 μ1 _ _ _ e1 hd1 (itok_range i (j - i).toNat) t1⟩⟩
end
end DL

set_option Elab.async false
set_option linter.all false
set_option maxRecDepth 100000
/-! DC: defs with defaults; classes: made, their properties and methods; len of an object -/
namespace DL
open PySem L2 PySem.Spec PyProof.Rows
/-! ### defs with defaults -/
section
variable {P : Program} {w : World} {K : PySem.W.Frag} {mg : Str → Option Value} {base : Heap}
theorem fnG_ofD {x qual : Str} {st : Stmt} {f : Addr} {fd : FuncData} {N ps : List Str} {k : Nat} {sp : Sp} {dvs : List V} {kws : List (Str × V)} (F : FunD K x qual (defArgs st) (defBody st) (defScope st) dvs kws f fd) (S : FnScope N ps (defScope st)) (len : ∀ vs H Q E, sp vs H Q E → vs.length = ps.length)
    (body : ∀ (cdv : Value) (A : Around) (outer : List Env) (s : Shared) (H : Hp) (vs : List V) (Q : VK) (E : XK), Room k (A.deeper (envOfC qual (defScope st) s.heap.objs.size f cdv)) → A.guards = some [] → sp vs H Q E →
      ∃ t, PSs (cxOf (CX P w) P w K mg base N qual (defScope st) f cdv A outer s H E) (defBody st) t ∧ t { nx := fun _ H' => Q .non H', rt := Q } (start N vs) H) : FnG P w K mg base (k + 1) f fd ps sp := by
  obtain ⟨oc, od, dV, kV, doc, pm, an, cdv, ct, osl, rfl, lk, hcd, _, _⟩ := F.ex
  refine ⟨len, ?_⟩
  intro A outer s H args us vs Q E room gd e0 bnd rel hsp
  have inK : K.In s.heap := e0.mod.kin.keeps fun b o z => (e0.bs b o z).1
  have nolim : s.heap.NoLimit := e0.mod.nolimit.keeps fun b o z => (e0.bs b o z).1
  refine codeAny_call_function room.depth (inK _ _ lk) rfl S.co S.gen rfl (PySem.W.codeRec_of inK hcd) (bnd _ _ _ _ ?_)
  refine wpAny_newFunctionEnv_cells S.kind ?_ ?_
  · rintro ⟨n, v⟩ hy
    rcases S.par n (List.of_mem_zip hy).1 with q | q
    · exact .inl q
    · exact .inr ⟨q, PySem.W.cellsFrom_some _ _ _ (.inl q)⟩
  intro env he s1 inC
  subst he
  refine ⟨nolim.keeps inC.toInCall.keep, codeAny_func ?_⟩
  obtain ⟨t, der, q⟩ := body cdv A outer s H vs Q E (room.deeper _) gd hsp
  have I := inv_start (CX := CX P w) (E := E) S room.hd e0 (len _ _ _ _ hsp) rel inC
  refine wpAny_mono (der.run [] s1 (start N vs) H _ I q) ?_ fun _ _ z => z
  intro fl s2 sp2
  match fl, sp2 with
  | .ret u, ⟨v, σ2, H2, J, rv, q2⟩ => exact ⟨v, H2, J.os, J.bare, J.base, J.hok, rv, q2⟩
  | .next, ⟨σ2, H2, J, q2⟩ => exact ⟨V.non, H2, J.os, J.bare, J.base, J.hok, rfl, q2⟩
  | .brk, ⟨_, _, _, q2⟩ => exact q2.elim
  | .cont, ⟨_, _, _, q2⟩ => exact q2.elim
theorem fnD_ofD {x qual : Str} {st : Stmt} {f : Addr} {fd : FuncData} {N ps : List Str} {k n : Nat} {c : DSp} {t : DX → DTS} {dvs : List V} {kws : List (Str × V)} (F : FunD K x qual (defArgs st) (defBody st) (defScope st) dvs kws f fd) (S : FnScope N ps (defScope st)) (hn : N.length = n) (len : ∀ ds μ q e, c ds μ q e → ds.length = ps.length)
    (der : ∀ (cdv : Value) (A : Around) (outer : List Env) (s : Shared) (H : Hp) (E : XK) (O : Org) (e : DX), Ctx O (cxOf (CX P w) P w K mg base N qual (defScope st) f cdv A outer s H E) k e →
      Takes (cxOf (CX P w) P w K mg base N qual (defScope st) f cdv A outer s H E) (fun cls d _ H2 => LX K O e cls d H2) →
      PassesOwn (model P w) (A.deeper (envOfC qual (defScope st) s.heap.objs.size f cdv)) (envOfC qual (defScope st) s.heap.objs.size f cdv) (cxOf (CX P w) P w K mg base N qual (defScope st) f cdv A outer s H E).xe →
      DSs O (cxOf (CX P w) P w K mg base N qual (defScope st) f cdv A outer s H E) (defBody st) (t e))
    (ok : ∀ ds μ q e, c ds μ q e → t e (endsD q) (startD n ds) μ) : FnG P w K mg base (k + 1) f fd ps (LSp K c) := by
  subst hn
  refine fnG_ofD F S (fun vs H Q E ⟨F, μ, ds, q, e, hd, r, hc, _⟩ => by rw [← r.length]; exact len _ _ _ _ hc) ?_
  rintro cdv A outer s H vs Q E room gd ⟨F0, μ, ds, q, e, hd, r, hc, hq, hE⟩
  have tk : Takes (cxOf (CX P w) P w K mg base N qual (defScope st) f cdv A outer s H E) (fun cls d _ H2 => LX K ⟨F0, H⟩ e cls d H2) := by
    have z := takes_of (X := cxOf (CX P w) P w K mg base N qual (defScope st) f cdv A outer s H E) (E := E) rfl rfl rfl rfl
    exact z.imp fun cls d _ H' h => hE cls d H' h
  have ow : PassesOwn (model P w) (A.deeper (envOfC qual (defScope st) s.heap.objs.size f cdv)) (envOfC qual (defScope st) s.heap.objs.size f cdv) (cxOf (CX P w) P w K mg base N qual (defScope st) f cdv A outer s H E).xe :=
    passes_of (X := cxOf (CX P w) P w K mg base N qual (defScope st) f cdv A outer s H E) rfl
  refine ⟨_, der cdv A outer s H E ⟨F0, H⟩ e ⟨room, gd, passes_call tk fun _ _ _ _ h => h⟩ tk ow, F0, startD N.length ds, μ, _, hd, repS_start r, ok ds μ q e hc, ⟨?_, ?_, ?_, ?_⟩⟩
  · rintro F1 H1 μ1 δ1 σ1 e1 hd1 rs1 ⟨μ2, s2, q2⟩
    exact hq F1 H1 μ2 .non .non (hd1.sub s2) rfl q2
  · rintro F1 H1 μ1 d v e1 hd1 r1 ⟨μ2, s2, q2⟩
    exact hq F1 H1 μ2 d v (hd1.sub s2) r1 q2
  · intro _ _ _ _ _ _ _ _ z; exact z.elim
  · intro _ _ _ _ _ _ _ _ z; exact z.elim
/-- a def that stands with one default -/
theorem funD_mk {x qual : Str} {st : Stmt} {f T : Addr} {oc ocT : Value} {od an odT : Option Addr} {osl slT : Array (Option Value)} {kV doc pm cdv ct u : Value} {nT : Nat} {v : V} (l : K.lookup f = some ⟨oc, od, .func (PySem.W.fnOf x qual (defArgs st) (defBody st) (defScope st) (.ref T) kV doc pm an cdv ct), osl⟩)
    (c : PySem.W.codeIn K cdv qual = true) (k : PySem.W.keepIn K (.ref f) = true) (lT : K.lookup T = some ⟨ocT, odT, .seq #[u] nT, slT⟩) (r : RelV v u) :
    FunD K x qual (defArgs st) (defBody st) (defScope st) [v] [] f (PySem.W.fnOf x qual (defArgs st) (defBody st) (defScope st) (.ref T) kV doc pm an cdv ct) :=
  ⟨⟨oc, od, .ref T, kV, doc, pm, an, cdv, ct, osl, rfl, l, c, .inr ⟨by simp, T, _, [u], nT, rfl, lT, rfl, .cons r .nil⟩, .inl rfl⟩, k⟩
/-- the empty tuple that the text holds -/
theorem rep_tup0 {E : Addr} {odE : Option Addr} {slE : Array (Option Value)} {nE : Nat} (lE : K.lookup E = some ⟨.type "tuple", odE, .seq #[] nE, slE⟩) : ∀ F H, RepL K F H [.tup []] [.ref E] :=
  fun F H => .cons ⟨E, [], rfl, .inr fun H' => .inr ⟨_, #[], nE, lE, rfl, rfl, Nat.zero_le _, .nil⟩, RepL.nil⟩ RepL.nil
theorem rep_int1 (i : Int) : ∀ F H, RepL K F H [.int i] [.int i] := fun F H => .cons rfl RepL.nil
end
/-- how a call binds: n positional values, keywords named ks; the parameters behind the positional ones are taken by perm from the keywords' values and the defaults -/
structure KwX (K : PySem.W.Frag) (fd : FuncData) (ps ks : List Str) (n : Nat) (perm : List Nat) (its : List Value) : Prop where
  to : ∀ (s : Shared) (us ws : List Value), K.In s.heap → us.length = n → ws.length = ks.length → BindsTo s fd ⟨us, ks.zip ws⟩ (ps.zip (us ++ pick perm (ws ++ its)))
structure FdX (P : Program) (w : World) (K : PySem.W.Frag) (mg : Str → Option Value) (base : Heap) (x : Str) (k : Nat) (ps : List Str) (c : DSp) (ks : List Str) (n : Nat) (perm : List Nat) (dds : List D) : Prop where
  ex : ∃ (f : Addr) (fd : FuncData) (its : List Value) (dvs : List V), FnG P w K mg base k f fd ps (LSp K c) ∧ mg x = some (.ref f) ∧ PySem.W.keepIn K (.ref f) = true ∧ KwX K fd ps ks n perm its ∧ Vals dvs its ∧ ∀ F H, RepL K F H dds dvs
theorem kwx_of {K : PySem.W.Frag} {f : Addr} {fd : FuncData} {ps ks : List Str} {n : Nat} {perm : List Nat} {x q : Str} {st : Stmt} (F : Fun K x q st f fd)
    (h : ∀ (kV doc pm : Value) (an : Option Addr) (cdv ct : Value) (us ws : List Value), us.length = n → ws.length = ks.length → bindArgs (PySem.W.fnOf x q (defArgs st) (defBody st) (defScope st) .none kV doc pm an cdv ct) ⟨us, ks.zip ws⟩ = pure (ps.zip (us ++ pick perm (ws ++ [])))) : KwX K fd ps ks n perm [] := by
  obtain ⟨oc, od, kV, doc, pm, an, cdv, ct, osl, rfl, lk, hcd⟩ := F.ex
  exact ⟨fun s us ws _ h1 h2 => .of_eq (h kV doc pm an cdv ct us ws h1 h2)⟩
theorem kwx_ofD {K : PySem.W.Frag} {f : Addr} {fd : FuncData} {ps ks : List Str} {n : Nat} {perm : List Nat} {x q : Str} {st : Stmt} {dvs : List V} (F : FunD K x q (defArgs st) (defBody st) (defScope st) dvs [] f fd) (hd : dvs ≠ [])
    (h : ∀ (T : Addr) (kV doc pm : Value) (an : Option Addr) (cdv ct : Value) (us ws its : List Value), us.length = n → ws.length = ks.length → its.length = dvs.length → ∃ k, bindArgs (PySem.W.fnOf x q (defArgs st) (defBody st) (defScope st) (.ref T) kV doc pm an cdv ct) ⟨us, ks.zip ws⟩ = seqItems? (.ref T) >>= k ∧ k (some its.toArray) = pure (ps.zip (us ++ pick perm (ws ++ its)))) :
    ∃ its, Vals dvs its ∧ KwX K fd ps ks n perm its := by
  obtain ⟨oc, od, dV, kV, doc, pm, an, cdv, ct, osl, rfl, lk, hcd, hD, hK⟩ := F.ex
  rcases hD with ⟨e, _⟩ | ⟨_, T, o, its, m, rfl, lT, oT, rT⟩
  · exact absurd e hd
  · refine ⟨its, rT, ⟨fun s us ws X l1 l2 => ?_⟩⟩
    obtain ⟨k, e1, e2⟩ := h T kV doc pm an cdv ct us ws its l1 l2 rT.length.symm
    refine BindsTo.of_looks fun M => ?_
    rw [e1]
    exact looks_items X lT oT (.of_pure e2)
def dCallX (c : DSp) (e : DX) (n m : Nat) (perm : List Nat) (dds : List D) (ta tk : DTA) : DTE := fun δ μ q => ta δ μ fun ds μ1 => tk δ μ1 fun zs μ2 => ds.length = n ∧ zs.length = m ∧ c (ds ++ pick perm (zs ++ dds)) μ2 q e
section
variable {O : Org} {X : Cx} {k j n m : Nat} {f : Addr} {fd : FuncData} {ps ks : List Str} {c : DSp} {e : DX} {x : Str} {p pos kpos : Pos} {a : Expr} {es : List Expr} {t tk : DTA} {ta : DTE} {kws : List Keyword} {perm : List Nat} {nm : Option Str} {sp : Sp} {E : XK} {its : List Value} {dvs : List V} {dds : List D}
def tCallX (sp : Sp) (n m : Nat) (perm : List Nat) (dvs : List V) (E : XK) (t tk : TA) : TE := fun σ H Q => t σ H fun vs H1 => tk σ H1 fun zs H2 => vs.length = n ∧ zs.length = m ∧ sp (vs ++ pick perm (zs ++ dvs)) H2 Q E
theorem run_fnGX {pins : List (Addr × Obj)} {σ : L2.St} {H : Hp} {s : Shared} {Q : VK} {us ws : List Value} {vs zs : List V} (F : FnG X.prog X.w X.K X.mg X.base k f fd ps sp) (hr : Room k X.A) (hgd : X.A.guards = some []) (hb : KwX X.K fd ps ks n perm its) (hv : Vals dvs its) (hx : Passes (CX X.prog X.w) X E)
    (I : Inv X pins σ H s) (r : Vals vs us) (rz : Vals zs ws) (h1 : vs.length = n) (h2 : zs.length = ks.length) (h : sp (vs ++ pick perm (zs ++ dvs)) H Q E) : wpAny (model X.prog X.w) X.A (call (.ref f) us (ks.zip ws)) (EP X pins σ Q) X.xe s := by
  have rel := r.append (vals_pick (rz.append hv) perm)
  refine wpAny_call (codeAny_mono (F.run X.A X.stack s H ⟨us, ks.zip ws⟩ _ _ Q E hr hgd I.env0 (hb.to s us ws I.kIn (r.length.symm.trans h1) (rz.length.symm.trans h2)) rel h) ?_)
  intro res s2 end2
  match res, end2 with
  | .error e, end2 => exact hx pins σ H s e s2 I end2
  | .ok (.ret u), end2 => exact I.after end2
theorem pe_callGX {t tk : TA} (F : FnG X.prog X.w X.K X.mg X.base k f fd ps sp) (hr : Room k X.A) (hgd : X.A.guards = some []) (hg : Gl X x) (hm : X.mg x = some (.ref f)) (hk : PySem.W.keepIn X.K (.ref f) = true) (hb : KwX X.K fd ps ks n perm its) (hv : Vals dvs its) (hx : Passes (CX X.prog X.w) X E)
    (ha : PA X (a :: es) t) (hkw : PK X kws tk) (hall : (backToKw pos (keywordEach kws X.env)).all (·.1.isSome) = true) (hks : (backToKw pos (keywordEach kws X.env)).filterMap (·.1) = ks)
    (hdb : (x == ("__debug__" : Str)) = false) (he : starEach (a :: es) X.env = (false, eval a X.env) :: starEach es X.env)
    (hpl : ((backTo pos (starEach (a :: es) X.env)).any (·.1) || (backToKw pos (keywordEach kws X.env)).any (·.1.isNone)) = false) :
    PE X (.Call (.Name x p) (a :: es) kws pos) (tCallX sp n ks.length perm dvs E t tk) := by
  constructor
  intro pins s σ H Q I h
  refine wpAny_Call_Name_kw (ld_glob I hg hm ?_ hdb)
  refine PySem.W.callWith_KW (h₀ := X.base) I.ok.mod.kin hk hall (thn (ha.run pos pins s σ H _ I h) ?_) hpl he
  rintro us s1 ⟨vs, H1, I1, r, q⟩
  refine thn (hkw.run pos pins s1 σ H1 _ I1 q) ?_
  rintro ws s2 ⟨zs, H2, I2, rz, l1, l2, q2⟩
  refine ⟨I2.kIn, ?_⟩
  rw [hks]
  exact run_fnGX F hr hgd hb hv hx I2 r rz l1 l2 q2
theorem pe_callGX0 {tk : TA} (F : FnG X.prog X.w X.K X.mg X.base k f fd ps sp) (hr : Room k X.A) (hgd : X.A.guards = some []) (hg : Gl X x) (hm : X.mg x = some (.ref f)) (hk : PySem.W.keepIn X.K (.ref f) = true) (hb : KwX X.K fd ps ks 0 perm its) (hv : Vals dvs its) (hx : Passes (CX X.prog X.w) X E)
    (hkw : PK X kws tk) (hall : (backToKw pos (keywordEach kws X.env)).all (·.1.isSome) = true) (hks : (backToKw pos (keywordEach kws X.env)).filterMap (·.1) = ks)
    (hdb : (x == ("__debug__" : Str)) = false) (hpl : ((backTo pos (starEach [] X.env)).any (·.1) || (backToKw pos (keywordEach kws X.env)).any (·.1.isNone)) = false) :
    PE X (.Call (.Name x p) [] kws pos) (tCallX sp 0 ks.length perm dvs E tNil tk) := by
  constructor
  intro pins s σ H Q I h
  refine wpAny_Call_Name_kw (ld_glob I hg hm ?_ hdb)
  refine PySem.W.callWith_KW0 (h₀ := X.base) I.ok.mod.kin hk hall ?_ hpl
  refine thn (hkw.run pos pins s σ H _ I h) ?_
  rintro ws s2 ⟨zs, H2, I2, rz, l1, l2, q2⟩
  refine ⟨I2.kIn, ?_⟩
  rw [hks]
  exact run_fnGX F hr hgd hb hv hx I2 .nil rz l1 l2 q2
theorem lcallx {K : PySem.W.Frag} (hdd : ∀ F H, RepL K F H dds dvs) : ∀ σ H Q, LE K O (dCallX c e n m perm dds t tk) σ H Q → tCallX (LSp K c) n m perm dvs (LX K O e) (LA K O t) (LA K O tk) σ H Q := fun σ H Q ⟨F, δ, μ, q, hd, rs, t, k⟩ =>
  ⟨F, δ, μ, _, hd, rs, t, fun F1 H1 μ1 ds vs e1 hd1 r1 t1 => ⟨F1, δ, μ1, _, hd1, rs.ext e1, t1, fun F2 H2 μ2 zs us e2 hd2 r2 ⟨l1, l2, t2⟩ =>
    ⟨by rw [← r1.length]; exact l1, by rw [← r2.length]; exact l2, F2, μ2, ds ++ pick perm (zs ++ dds), q, e, hd2.here, (r1.ext e2).append (repL_pick (r2.append (hdd F2 H2)) perm), t2, fun F3 H3 μ3 d v hd3 r3 q3 => by
    obtain ⟨h1, h2⟩ := hd2.back hd3
    exact k F3 H3 μ3 d v ((e1.trans e2).trans h2) h1 r3 q3, fun cls dd H' ⟨C, b, v, d, F', μ', h1, h2, h3, h4, h5, h6⟩ => ⟨C, b, v, d, F', μ', h1, h2, h3, (hd2.back h4).1, h5, h6⟩⟩⟩⟩
theorem de_callFX (h : FdX X.prog X.w X.K X.mg X.base x j ps c ks n perm dds) (hr : Room j X.A) (hgd : X.A.guards = some []) (hx : Passes (CX X.prog X.w) X (LX X.K O e)) (hg : Gl X x) (ha : DA O X (a :: es) t) (hkw : DKw O X kws tk) (hdb : (x == ("__debug__" : Str)) = false := by decide)
    (hall : (backToKw pos (keywordEach kws X.env)).all (·.1.isSome) = true := by rfl) (hks : (backToKw pos (keywordEach kws X.env)).filterMap (·.1) = ks := by rfl)
    (he : starEach (a :: es) X.env = (false, eval a X.env) :: starEach es X.env := by rfl) (hpl : ((backTo pos (starEach (a :: es) X.env)).any (·.1) || (backToKw pos (keywordEach kws X.env)).any (·.1.isNone)) = false := by rfl) (hml : m = ks.length := by rfl) : DE O X (.Call (.Name x p) (a :: es) kws pos) (dCallX c e n m perm dds t tk) := by
  subst hml
  obtain ⟨f, fd, its, dvs, F, hm, hk, hb, hv, hdd⟩ := h.ex
  exact pe_weak (pe_callGX F hr hgd hg hm hk hb hv hx ha hkw hall hks hdb he hpl) (lcallx hdd)
theorem de_callFX0 (h : FdX X.prog X.w X.K X.mg X.base x j ps c ks 0 perm dds) (hr : Room j X.A) (hgd : X.A.guards = some []) (hx : Passes (CX X.prog X.w) X (LX X.K O e)) (hg : Gl X x) (hkw : DKw O X kws tk) (hdb : (x == ("__debug__" : Str)) = false := by decide)
    (hall : (backToKw pos (keywordEach kws X.env)).all (·.1.isSome) = true := by rfl) (hks : (backToKw pos (keywordEach kws X.env)).filterMap (·.1) = ks := by rfl)
    (hpl : ((backTo pos (starEach [] X.env)).any (·.1) || (backToKw pos (keywordEach kws X.env)).any (·.1.isNone)) = false := by rfl) (hml : m = ks.length := by rfl) : DE O X (.Call (.Name x p) [] kws pos) (dCallX c e 0 m perm dds dNil tk) := by
  subst hml
  obtain ⟨f, fd, its, dvs, F, hm, hk, hb, hv, hdd⟩ := h.ex
  refine pe_weak (pe_callGX0 F hr hgd hg hm hk hb hv hx hkw hall hks hdb hpl) fun σ H Q h => ?_
  have := lcallx hdd σ H Q h
  obtain ⟨F1, δ, μ, q, hd1, rs, t1, k1⟩ := this
  exact k1 F1 H μ [] [] (Ext.refl _ _) hd1 RepL.nil t1
end
/-- f(e, ..), the last parameters by their defaults -/
structure FdP (P : Program) (w : World) (K : PySem.W.Frag) (mg : Str → Option Value) (base : Heap) (x : Str) (k : Nat) (ps : List Str) (c : DSp) (dds : List D) : Prop where
  ex : ∃ (f : Addr) (fd : FuncData) (ds : List Value) (dvs : List V), FnG P w K mg base k f fd ps (LSp K c) ∧ mg x = some (.ref f) ∧ PySem.W.keepIn K (.ref f) = true ∧ Binds K fd ps ds ∧ Vals dvs ds ∧ ∀ F H, RepL K F H dds dvs
/-- C(e, ..) -/
structure Im (P : Program) (w : World) (K : PySem.W.Frag) (mg : Str → Option Value) (base : Heap) (x : Str) (C : Addr) (k : Nat) (ps : List Str) (c : DSp) (dds : List D) : Prop where
  ex : ∃ (f : Addr) (fd : FuncData) (ds : List Value) (dvs : List V), FnG P w K mg base k f fd ps (LSp K c) ∧ Mk K C f ∧ mg x = some (.ref C) ∧ Binds K fd ps ds ∧ Vals dvs ds ∧ ∀ F H, RepL K F H dds dvs
structure Pp (P : Program) (w : World) (K : PySem.W.Frag) (mg : Str → Option Value) (base : Heap) (C : Addr) (fl : Str) (k : Nat) (ps : List Str) (c : DSp) : Prop where
  ex : ∃ (pr g : Addr) (fd : FuncData), PropOf K C fl pr g ∧ FnG P w K mg base k g fd ps (LSp K c) ∧ Binds K fd ps []
structure Mm (P : Program) (w : World) (K : PySem.W.Frag) (mg : Str → Option Value) (base : Heap) (C : Addr) (m : Str) (k : Nat) (ps : List Str) (c : DSp) : Prop where
  ex : ∃ (f : Addr) (fd : FuncData), Meth K C m f ∧ FnG P w K mg base k f fd ps (LSp K c) ∧ Binds K fd ps []
section
variable {O : Org} {X : Cx} {k j : Nat} {C : Addr} {ps : List Str} {c : DSp} {e : DX} {x m fl : Str} {p pos apos : Pos} {a o : Expr} {es : List Expr} {t : DTA} {te : DTE} {dds : List D}
theorem de_callP (h : FdP X.prog X.w X.K X.mg X.base x j ps c dds) (hr : Room j X.A) (hgd : X.A.guards = some []) (hx : Passes (CX X.prog X.w) X (LX X.K O e)) (hg : Gl X x) (ha : DA O X (a :: es) t) (hdb : (x == ("__debug__" : Str)) = false := by decide)
    (he : starEach (a :: es) X.env = (false, eval a X.env) :: starEach es X.env := by rfl) (hpl : (backTo pos (starEach es X.env)).any (·.1) = false := by rfl) : DE O X (.Call (.Name x p) (a :: es) [] pos) (dCall c e dds t) := by
  obtain ⟨f, fd, ds, dvs, F, hm, hk, hb, hv, hdd⟩ := h.ex
  exact de_call F hr hgd hg hm hk hb hv hdd hx ha hdb he hpl
theorem de_makeI (h : Im X.prog X.w X.K X.mg X.base x C k ps c dds) (hr : Room (k + 1) X.A) (hgd : X.A.guards = some []) (hx : Passes (CX X.prog X.w) X (LX X.K O e)) (hg : Gl X x) (ha : DA O X (a :: es) t) (hdb : (x == ("__debug__" : Str)) = false := by decide)
    (he : starEach (a :: es) X.env = (false, eval a X.env) :: starEach es X.env := by rfl) (hpl : (backTo pos (starEach es X.env)).any (·.1) = false := by rfl) : DE O X (.Call (.Name x p) (a :: es) [] pos) (dMakeZ C c e dds t) := by
  obtain ⟨f, fd, ds, dvs, F, M, hm, hb, hv, hdd⟩ := h.ex
  exact de_makeZ M F hr hgd hg hm hb hv hdd hx ha hdb he hpl
theorem de_propP (cc : L2.Cls X.K C) (h : Pp X.prog X.w X.K X.mg X.base C fl k ps c) (hr : Room (k + 1) X.A) (hgd : X.A.guards = some []) (he : DE O X a te) (hab : attributeBase a fl X.env (eval a X.env) = eval a X.env := by rfl) : DE O X (.Attribute a fl pos) (dProp C c te) := by
  obtain ⟨pr, g, fd, hp, F, hb⟩ := h.ex
  exact de_prop cc hp F hr hgd hb he hab
theorem de_methM {pl : Sem Bool} (cc : L2.Cls X.K C) (h : Mm X.prog X.w X.K X.mg X.base C m k ps c) (hr : Room k X.A) (hgd : X.A.guards = some []) (hx : Passes (CX X.prog X.w) X (LX X.K O e)) (he : DE O X o te) (ha : DA O X (a :: es) t)
    (hst : starEach (a :: es) X.env = (false, eval a X.env) :: starEach es X.env := by rfl) (hpl : (backTo pos (starEach es X.env)).any (·.1) = false := by rfl)
    (ht : eval (.Call (.Attribute o m apos) (a :: es) [] pos) X.env = (do
      let ov ← eval o X.env
      standAt apos.atName
      let (f, first) ← holding [ov] (getMethod ov m pl)
      callWith pos f first (backTo pos (starEach (a :: es) X.env)) (backToKw pos (keywordEach [] X.env))) := by rfl) :
    DE O X (.Call (.Attribute o m apos) (a :: es) [] pos) (dMeth C m c e te t) := by
  obtain ⟨f, fd, hm, F, hb⟩ := h.ex
  exact de_meth cc hm F hr hgd hb hx he ha hst hpl ht
def dMeth0 (C : Addr) (m : Str) (c : DSp) (e : DX) (te : DTE) : DTE := fun δ μ q => te δ μ fun x μ1 => noFld C m μ1 x ∧ c [x] μ1 q e
theorem pe_methG0 {f : Addr} {fd : FuncData} {sp : Sp} {E : XK} {pl : Sem Bool} {ta : TE} (he : PE X o ta) (cc : L2.Cls X.K C) (hm : Meth X.K C m f) (F : FnG X.prog X.w X.K X.mg X.base k f fd ps sp) (hr : Room k X.A) (hgd : X.A.guards = some []) (hb : Binds X.K fd ps []) (hx : Passes (CX X.prog X.w) X E)
    (ht : eval (.Call (.Attribute o m apos) [] [] pos) X.env = (do
      let ov ← eval o X.env
      standAt apos.atName
      let (f, first) ← holding [ov] (getMethod ov m pl)
      callWith pos f first (backTo pos (starEach [] X.env)) (backToKw pos (keywordEach [] X.env)))) :
    PE X (.Call (.Attribute o m apos) [] [] pos) (tMeth C m sp [] E ta tNil) := by
  refine ⟨fun pins s σ H Q I h => ?_⟩
  refine PySem.W.methodCall_KW (pl := pl) (thn (he.run pins s σ H _ I h) fun u s1 ⟨x, H1, I1, rx, a, dx, fs, ex, ea, l, q⟩ => ?_) ht
  subst ex
  obtain rfl : u = Value.ref a := rx
  refine getmeth_ok I1 ea cc hm l ?_
  exact PySem.W.callWith_K0 (first := [.ref a]) I1.kIn hm.kp (run_fnG (us := [.ref a]) (vs := [.ref a]) (dvs := []) (ds := []) F hr hgd hb .nil hx I1 (.cons rfl .nil) q)
theorem de_methM0 {pl : Sem Bool} (cc : L2.Cls X.K C) (h : Mm X.prog X.w X.K X.mg X.base C m k ps c) (hr : Room k X.A) (hgd : X.A.guards = some []) (hx : Passes (CX X.prog X.w) X (LX X.K O e)) (he : DE O X o te)
    (ht : eval (.Call (.Attribute o m apos) [] [] pos) X.env = (do
      let ov ← eval o X.env
      standAt apos.atName
      let (f, first) ← holding [ov] (getMethod ov m pl)
      callWith pos f first (backTo pos (starEach [] X.env)) (backToKw pos (keywordEach [] X.env))) := by rfl) :
    DE O X (.Call (.Attribute o m apos) [] [] pos) (dMeth0 C m c e te) := by
  obtain ⟨f, fd, hm, F, hb⟩ := h.ex
  refine pe_weak (pe_methG0 he cc hm F hr hgd hb hx ht) fun σ H Q ⟨F0, δ, μ, q, hd, rs, t, k⟩ => ⟨F0, δ, μ, _, hd, rs, t, fun F1 H1 μ1 x v e1 hd1 r1 ⟨ho, t1⟩ => ?_⟩
  obtain ⟨a0, dx, fs, rfl, h1, hn⟩ := obj_no hd1 r1 ho
  refine ⟨a0, dx, fs, rfl, h1, hn, ?_⟩
  refine ⟨F1, μ1, [x], q, e, hd1.here, .cons r1 RepL.nil, t1, fun F3 H3 μ3 d v hd3 r3 q3 => ?_, fun cls dd H' ⟨C, b, v, d, F', μ', h1, h2, h3, h4, h5, h6⟩ => ⟨C, b, v, d, F', μ', h1, h2, h3, (hd1.back h4).1, h5, h6⟩⟩
  obtain ⟨p1, p2⟩ := hd1.back hd3
  exact k F3 H3 μ3 d v (e1.trans p2) p1 r3 q3
end
/-! ### len(o) by an own __len__ -/
section
variable {X : Cx} {k : Nat} {C : Addr} {ps : List Str} {c : DSp}
def rLenOwn (K : PySem.W.Frag) (C : Addr) (c : DSp) : List V → Hp → VK → Prop := fun xs H Q => ∃ a dx fs, xs = [.ref a] ∧ H a = some (.ins C dx fs) ∧ LSp K c [.ref a] H (fun v H' => ∃ n : Nat, v = .int n ∧ n ≤ sizeLine ∧ Q (.int n) H') fun _ _ _ => False
theorem call_lenOwn (h : Mm X.prog X.w X.K X.mg X.base C "__len__" k ps c) (hr : Room (k + 1) X.A) (hgd : X.A.guards = some []) : CallR X (.builtin "len") (rLenOwn X.K C c) := by
  intro pins s σ H xs us Q I r hq
  obtain ⟨f, fd, hm, F, hb⟩ := h.ex
  obtain ⟨a, dx, fs, rfl, ea, q⟩ := hq
  obtain ⟨u, rfl, rx⟩ := vals1 r
  obtain rfl : u = Value.ref a := rx
  have hz := sizeLine_eq
  refine Calls.call_function_entry kind_len plain_len entry_len (args_len1 _) ?_
  unfold Builtin.«len»
  refine wpAny_bind (m := oneArg "len" _) (wpAny_pure ?_)
  obtain ⟨mA, Ob, _⟩ := ins_get I.hok ea
  obtain ⟨od, J, _⟩ := Ob.look
  have hl : ([Value.ref a] ++ []).length = ps.length := F.len _ _ _ _ q
  refine wpAny_bind (m := callSpecial? (.ref a) (Str.ofString "__len__")) (PySem.W.special_fn I.kIn J hm.at_ (beq_iff_eq.mp hm.fn) (wpAny_call ?_))
  refine codeAny_mono (F.run X.A.in1 X.stack s H ⟨[.ref a], []⟩ [.ref a] [.ref a] _ _ hr.in1 hgd I.env0.in1 (hb _ [.ref a] I.kIn hl) (.cons rfl .nil) q) ?_
  intro res s2 end2
  match res, end2 with
  | .error er, end2 =>
    obtain ⟨a, B, H', cls, d, _, _, _, _, _, _, _, z⟩ := end2
    exact z.elim
  | .ok (.ret u), end2 =>
    obtain ⟨v, H', I3, rv, n, rfl, hn, q3⟩ := I.after end2
    obtain ⟨t, rfl⟩ := rv
    refine wpAny_bind (wpAny_holding (wpAny_pure ?_))
    refine wpAny_bind (wpAny_letGo ?_)
    show wpAny _ _ (if ((n : Nat) : Int) < 0 then _ else _) _ _ _
    rw [if_neg (by omega)]
    show wpAny _ _ (if ((n : Nat) : Int) ≥ 2 ^ 63 then _ else _) _ _ _
    rw [if_neg (by omega)]
    exact wpAny_bind (wpAny_mkInt (wpAny_pure ⟨_, rfl, .int n, H', I3.tok _, ⟨_, rfl⟩, q3⟩))
/-- len: of an object of C by its own, of all else as ever -/
def rLenX (C : Addr) (c : DSp) : DC2 := fun ds μ q => match ds with
  | [.ins C' ns l] => C' = C ∧ c [.ins C' ns l] μ (fun d μ' => ∃ n : Nat, d = .int n ∧ n ≤ sizeLine ∧ q d μ') eN
  | ds => rLenD ds μ q
theorem cd_lenX {K : PySem.W.Frag} : CallD K (fun xs H Q => rLenOwn K C c xs H Q ∨ (fun xs H Q => ∃ x n, xs = [x] ∧ LenV K x H n ∧ Q (.int n) H) xs H Q) (rLenX C c) := by
  intro O F H μ ds vs q Q hd rs t k
  unfold rLenX at t
  split at t
  · rename_i C' ns l
    obtain ⟨rfl, t⟩ := t
    obtain ⟨v, rfl, h1⟩ := repL1 rs
    have h1' := h1
    obtain ⟨a, dx, us, rfl, ⟨_, h2⟩, h3, h4⟩ := h1'
    refine .inl ⟨a, dx, _, rfl, h2, F, μ, [.ins C' ns l], _, eN, hd.here, .cons h1 RepL.nil, t, fun F2 H2 μ2 d v hd2 r2 ⟨n, e1, e2, q2⟩ => ?_, fun cls dd H' ⟨_, _, _, _, _, _, _, _, _, _, _, z⟩ => z.elim⟩
    subst e1
    obtain rfl : v = .int n := r2
    obtain ⟨p1, p2⟩ := hd.back hd2
    exact ⟨n, rfl, e2, k F2 H2 μ2 _ _ p2 p1 rep_int q2⟩
  · exact .inr (cd_len O F H μ _ vs q Q hd rs t k)
end
end DL

set_option Elab.async false
set_option linter.all false
set_option maxRecDepth 100000
/-! DC2: tables of the top; int(flag) -/
namespace DL
open PySem L2
section
variable {O : Org} {X : Cx} {x : Str} {d : Addr} {tab : List (Str × D)} {miss : List Str} {pos : Pos} {a b : Expr} {ta tb : DTE}
theorem de_kdIn (T : KdTab X.K X.w X.mg x d tab miss) (ha : DE O X a ta) (hb : DE O X b tb) (hm : behindInMarks .In b = false := by rfl) : DE O X (.Compare a [.In] [b] pos) (dOp (rKdIn false d tab miss) ta tb) := by
  obtain ⟨es, n, D⟩ := T.kd
  exact de_cmp (op_in_kd D) (od_kdIn T) ha hb hm
theorem de_kdNotIn (T : KdTab X.K X.w X.mg x d tab miss) (ha : DE O X a ta) (hb : DE O X b tb) (hm : behindInMarks .NotIn b = false := by rfl) : DE O X (.Compare a [.NotIn] [b] pos) (dOp (rKdIn true d tab miss) ta tb) := by
  obtain ⟨es, n, D⟩ := T.kd
  exact de_cmp (op_notIn_kd D) (od_kdNotIn T) ha hb hm
theorem dt_kdIn (T : KdTab X.K X.w X.mg x d tab miss) (ha : DE O X a ta) (hb : DE O X b tb) (hm : behindInMarks .In b = false := by rfl) : DT O X (.Compare a [.In] [b] pos) (dTest (dOp (rKdIn false d tab miss) ta tb)) := by
  obtain ⟨es, n, D⟩ := T.kd
  exact dt_cmp (op_in_kd D) (od_kdIn T) ha hb hm
theorem dt_kdNotIn (T : KdTab X.K X.w X.mg x d tab miss) (ha : DE O X a ta) (hb : DE O X b tb) (hm : behindInMarks .NotIn b = false := by rfl) : DT O X (.Compare a [.NotIn] [b] pos) (dTest (dOp (rKdIn true d tab miss) ta tb)) := by
  obtain ⟨es, n, D⟩ := T.kd
  exact dt_cmp (op_notIn_kd D) (od_kdNotIn T) ha hb hm
end
section
variable {K : PySem.W.Frag} {d : Addr} {tab : List (Str × D)}
def Hits (K : PySem.W.Frag) (d : Addr) (tab : List (Str × D)) : Prop := ∀ z e, tab.lookup z = some e → ∃ u v, PySem.W.nsIn K d z = some (some u) ∧ RelV v u ∧ ∀ F H, Rep K F H e v
theorem hits_nil : Hits K d [] := fun z e h => by simp at h
theorem hits_cons {w : Str} {e : D} {u : Value} {v : V} (h : PySem.W.nsIn K d w = some (some u)) (r : RelV v u) (p : ∀ F H, Rep K F H e v) (t : Hits K d tab) : Hits K d ((w, e) :: tab) := fun z e' h' => by
  rw [List.lookup_cons] at h'
  cases q : (z == w) with
  | true =>
    rw [q] at h'
    cases h'
    rw [eq_of_beq q]
    exact ⟨u, v, h, r, p⟩
  | false =>
    rw [q] at h'
    exact t z e' h'
def Misses (K : PySem.W.Frag) (d : Addr) (l : List Str) : Prop := ∀ z, z ∈ l → PySem.W.nsIn K d z = some none
theorem misses_nil : Misses K d [] := fun z h => by simp at h
theorem misses_cons {w : Str} {l : List Str} (h : PySem.W.nsIn K d w = some none) (t : Misses K d l) : Misses K d (w :: l) := fun z hz => by
  rcases List.mem_cons.mp hz with e | e
  · rw [e]; exact h
  · exact t z e
theorem rep_tupI {a : Addr} {od : Option Addr} {sl : Array (Option Value)} {n : Nat} {us : List Value} (ns : List Int) (l : K.lookup a = some ⟨.type "tuple", od, .seq us.toArray n, sl⟩) (hl : us.length ≤ 1000) (r : Vals (ns.map V.int) us) : ∀ F H, Rep K F H (.tup (ns.map D.int)) (.ref a) :=
  fun F H => ⟨a, ns.map V.int, rfl, .inr fun H' => .inr ⟨_, us.toArray, n, l, rfl, rfl, by rw [List.size_toArray, sizeLine_eq]; omega, by simpa using r⟩, RepL.of_ints ns⟩
end
/-! ### int(x): a whole number, True, False -/
def rIntD : DC2 := fun ds μ q => match ds with
  | [.int i] => q (.int i) μ
  | [.bl b] => q (.int (if b = true then 1 else 0)) μ
  | _ => False
theorem cd_int {K : PySem.W.Frag} : CallD K (fun xs H Q => (∃ i, xs = [.int i] ∧ Q (.int i) H) ∨ (∃ b, xs = [.bl b] ∧ Q (.int (if b then 1 else 0)) H)) rIntD := by
  intro O F H μ ds vs q Q hd rs t k
  unfold rIntD at t
  split at t
  · rename_i i
    obtain ⟨v, rfl, h1⟩ := repL1 rs
    obtain rfl : v = .int i := h1
    exact .inl ⟨i, rfl, k F H μ _ _ (Ext.refl F H) hd rep_int t⟩
  · rename_i b
    obtain ⟨v, rfl, h1⟩ := repL1 rs
    obtain rfl : v = .bl b := h1
    exact .inr ⟨b, rfl, k F H μ _ _ (Ext.refl F H) hd rep_int t⟩
  · exact t.elim
end DL

set_option Elab.async false
set_option linter.all false
set_option maxRecDepth 100000
/-! DE2: enumerate of a tuple -/
namespace DL
open PySem L2 PySem.Spec PyProof.Rows
open AutoSeq1 (wpAny_loadPart')
theorem meets_enumerate_newT (l : Addr) (items : Array Value) :
    Meets (Builtin.«enumerate.__new__» ⟨[.type "enumerate", .ref l], []⟩) (fun _ R s => s.heap.IsTuple l items ∧
      R (.ok (.ret (.ref (s.heap.push { cls := .type "tuple_iterator", data := .fields #[.ref l, .int 0 0] }).objs.size)))
        { s with heap := (s.heap.push { cls := .type "tuple_iterator", data := .fields #[.ref l, .int 0 0] }).push { cls := .type "enumerate", data := .fields #[.none, .bool false, .ref s.heap.objs.size, rawInt 0, .none, .none] } }) :=
  .of_wp fun prog w A R s h => by
    obtain ⟨hp, g, d, tk, os⟩ := s; obtain ⟨hL, h⟩ := h
    have hsub := sub_enumerate
    wp_walk
    refine wpAny_stack_any fun st => wpAny_pure ?_
    split
    · rename_i c _ _ _ _ _
      cases (c == Value.type "enumerate")
      · wp_walk using wpAny_pyIter_tuple hL
        exact ⟨_, rfl, h⟩
      · wp_walk using wpAny_pyIter_tuple hL
        exact ⟨_, rfl, h⟩
    · wp_walk using wpAny_pyIter_tuple hL
      exact ⟨_, rfl, h⟩
theorem call_enumerate_tuple {prog : Program} {w : World} {A : Around} {E : Value → Shared → Prop} {s : Shared} {l : Addr} {items : Array Value} {Q : Value → Shared → Prop} (hL : s.heap.IsTuple l items)
    (h : ∀ h', IsEnum h' (s.heap.objs.size + 1) s.heap.objs.size 0 .none → h'.IsTupleIter s.heap.objs.size l 0 → h'.objs.size = s.heap.objs.size + 2 →
      (∀ b o, s.heap.get? b = some o → h'.get? b = some o) → Q (.ref (s.heap.objs.size + 1)) { s with heap := h' }) :
    wpAny (model prog w) A (call (.type "enumerate") [.ref l]) Q E s := by
  refine callType_new F.called_enumerate (by decide) (F.typeCall_enumerate_1 _) (F.newCall_enumerate_1 _) (fun obj => F.args_object_init_2 obj _) F.entry_enumerate_new
    (meets_enumerate_newT l items) ⟨hL, ?_⟩
  have hz : (s.heap.push { cls := .type "tuple_iterator", data := .fields #[.ref l, .int 0 0] }).objs.size = s.heap.objs.size + 1 := Heap.size_push ..
  show _ ∧ _
  rw [hz]
  have he : IsEnum ((s.heap.push { cls := .type "tuple_iterator", data := .fields #[.ref l, .int 0 0] }).push
      { cls := .type "enumerate", data := .fields #[.none, .bool false, .ref s.heap.objs.size, rawInt 0, .none, .none] }) (s.heap.objs.size + 1) s.heap.objs.size 0 .none := by
    have := Heap.get?_push_size (s.heap.push { cls := .type "tuple_iterator", data := .fields #[.ref l, .int 0 0] })
      (o := { cls := .type "enumerate", data := .fields #[.none, .bool false, .ref s.heap.objs.size, rawInt 0, .none, .none] }) rfl
    rw [hz] at this; exact this
  refine ⟨⟨_, he, rfl⟩, h _ he ⟨_, Heap.get?_push_of_some _ (Heap.get?_push_size _ rfl), rfl, rfl⟩ (by rw [Heap.size_push, hz]) fun b o x => Heap.get?_push_of_some _ (Heap.get?_push_of_some _ x)⟩
theorem drawsTup {prog : Program} {w : World} {A : Around} (hh : A.handled = none) (it l : Addr) (hne : l ≠ it) (items : Array Value) :
    Draws prog w A it [it, l] items.size (fun i v => items[i]? = some v) (fun i h => h.IsTupleIter it l i ∧ h.IsTuple l items) where
  live := fun _ _ st => let ⟨o, ho, _⟩ := st.1; ⟨o, ho⟩
  frame := fun _ _ _ st hk => ⟨let ⟨o, e, r⟩ := st.1; ⟨o, hk it (by simp) o e, r⟩, let ⟨o, e, r⟩ := st.2; ⟨o, hk l (by simp) o e, r⟩⟩
  item := fun i s Q E hi st hQ => by
    refine RZ.nextOf_tuple_item st.1 st.2 (x := items[i]) (by simp [hi]) fun h' hit' hs' => ?_
    obtain ⟨o, e, r⟩ := st.2
    exact hQ _ h' s.toks (by simp [hi]) ⟨hit', o, hs'.extBut l o hne e, r⟩ hs'
  done := fun s Q E st hE => RZ.nextOf_tuple_end hh st.1 st.2 (by simp) hE
/-- the tuple at a, each item in a new pair -/
def IteT (K : PySem.W.Frag) (a : Addr) : It :=
  ⟨fun i H => ∃ (xs : List V) (x : V), SqT K H a xs ∧ xs[i]? = some x, fun i H v H' => ∃ T x, v = .ref T ∧ H T = none ∧ H' = upd H T (.tup [.int (i : Nat), x]) ∧ ∀ xs, SqT K H a xs → xs[i]? = some x, fun i H => ∃ xs : List V, SqT K H a xs ∧ xs.length ≤ i⟩
theorem turn_enumT {P : Program} {w : World} {K : PySem.W.Frag} {elts : List Expr} {kk : Nat} {tpos : Pos} (a e it : Addr) (hai : a ≠ it) (hae : a ≠ e) :
    Turn P w K (.Tuple elts kk tpos) (IteT K a) [e, it] e (fun i h => (∃ old, IsEnum h e it ((i : Nat) : Int) old) ∧ h.IsTupleIter it a i ∧ e ≠ it) where
  mem := by simp
  obj := fun i h st b hb => by
    obtain ⟨⟨old, he⟩, ⟨o, ho, hc, hd⟩, _⟩ := st
    have e' : b = e ∨ b = it := by simpa using hb
    rcases e' with z | z
    · rw [z]; exact ⟨_, he, fun v q => nomatch q⟩
    · rw [z]; exact ⟨o, ho, fun v q => by rw [hd] at q; cases q⟩
  keep := fun i h h' st k => let ⟨⟨old, he⟩, ⟨o, q, r⟩, hne⟩ := st; ⟨⟨old, k e (by simp) _ he⟩, ⟨o, k it (by simp) o q, r⟩, hne⟩
  item := by
    intro X hP hw hK hc i pins s σ H E I hf st hg
    subst hP hw hK
    obtain ⟨⟨old, he⟩, hit, hne⟩ := st
    obtain ⟨xs, x, hq, hx⟩ := hg
    obtain ⟨its, rv, p, hz⟩ := I.tuple hq
    obtain ⟨u, hu, ru⟩ := rv.get hx
    have hel : e < s.heap.objs.size := Heap.lt_size he
    have hil : it < s.heap.objs.size := by obtain ⟨_, q, _⟩ := hit; exact Heap.lt_size q
    have hlt : i < its.toArray.size := by
      have := (List.getElem?_eq_some_iff.mp hu).1
      simpa using this
    refine wpAny_pyNext_enum_itemD (drawsTup (prog := X.prog) (w := X.w) (A := X.A.in1) (I.ok.hd hc) it a hai its.toArray) he ⟨hit, p⟩ hlt hne (by simp [hne, Ne.symm hae]) fun x' h' tk hx' ho hit' hT hsz hk => ?_
    have ex : x' = u := by
      have h1 : its[i]? = some x' := by simpa using hx'
      rw [hu] at h1; exact (Option.some.inj h1).symm
    subst ex
    refine ⟨_, rfl, wpAny_letOwnedTupleGo_enum (s := { s with heap := h', toks := tk + 1 }) ho fun h'' he' sb => ?_⟩
    have hT2 : h''.get? s.heap.objs.size = some { cls := .type "tuple", data := .seq #[.int i tk, x'] } := (sb.2 _ (Nat.ne_of_gt hel)).trans hT
    have new : ObjOk X.prog X.w (upd H s.heap.objs.size (.tup [.int (i : Nat), x])) h'' s.heap.objs.size (.tup [.int (i : Nat), x]) :=
      ⟨by show 2 ≤ sizeLine; decide, [.int i tk, x'], .cons ⟨_, rfl⟩ (.cons ru .nil), ⟨_, hT2, rfl, _, rfl⟩⟩
    have I1 : Inv X pins σ (upd H s.heap.objs.size (.tup [.int (i : Nat), x])) { s with heap := h'', toks := tk + 1 } :=
      I.turnedNew (ch := [e, it]) (fun b ob hb q => (sb.2 b (fun z => hb (by simp [z]))).trans (hk b ob (fun z => hb (by simp [z])) (fun z => hb (by simp [z])) q)) hf (Nat.le_refl _) new
    refine ⟨.ref s.heap.objs.size, _, I1, rfl, ⟨_, x, rfl, I.hok.fresh (Nat.le_refl _), rfl, fun ys hy => by rw [I.tuple_inj hy hq]; exact hx⟩, ⟨⟨x', ?_⟩, ?_, hne⟩, fun b hb => ?_⟩
    · have e1 : ((i + 1 : Nat) : Int) = (i : Int) + 1 := by omega
      rw [e1]; exact he'
    · obtain ⟨o, q, r⟩ := hit'.1
      exact ⟨o, (sb.2 it (Ne.symm hne)).trans q, r⟩
    · have hb' : b < s.heap.objs.size := by
        have e' : b = e ∨ b = it := by simpa using hb
        rcases e' with z | z
        · rw [z]; exact hel
        · rw [z]; exact hil
      rw [upd_ne (Nat.ne_of_lt hb')]
      exact (hf b hb).1
  done := by
    intro X hP hw hK hc i pins s σ H E I hf st hg
    subst hP hw hK
    obtain ⟨⟨old, he⟩, hit, hne⟩ := st
    obtain ⟨xs, hq, hx⟩ := hg
    obtain ⟨its, rv, p, hz⟩ := I.tuple hq
    obtain ⟨f0, f1, f2, f3, f4, f5⟩ := hf it (by simp)
    have hl := rv.length
    have hT : s.TypeIs (.ref e) "enumerate" := ⟨_, he, rfl⟩
    unfold pyNext
    refine wpAny_bind (wpAny_attempt (wpAny_callSpecial?_slot (name := Str.ofString "__next__") hT F.slot_enumerate_next
      (wpAny_call_entry F.slot_enumerate_next hT F.entry_enumerate_next ?_ (F.args_enumerate_next_1 _))))
    show wpAny _ _ (field (.ref e) 2 >>= _) _ _ _
    refine wpAny_bind (wpAny_field he rfl (x := .ref it) rfl ?_)
    refine wpAny_bind (RZ.nextOf_tuple_end (A := X.A.in1) (I.ok.hd hc) hit p (by simp; omega) fun h' x he' hx' => ?_)
    obtain ⟨o, ho, hc'⟩ := hx'
    refine wpAny_bind (wpAny_isInstance (T := "StopIteration") (b := true) ⟨o, ho, hc'⟩ isSubtype_stop ?_)
    exact wpAny_pure ⟨rfl, I.turned (t' := s.toks) (fun b o hb q => he' b o hb q) f0 f1 f3 f4 f5⟩
  self := fun A i s Q E st h => let ⟨⟨_, he⟩, _⟩ := st; wpAny_pyIter_enum he h
def iEnumT (K : PySem.W.Frag) (ta : TA) : TI := fun σ H R => ta σ H fun vs H1 => ∃ a xs, vs = [.ref a] ∧ SqT K H1 a xs ∧ R (IteT K a) H1
theorem pi_enumT {X : Cx} {e : Expr} {ta : TA} {p pos tpos : Pos} {elts : List Expr} {kk : Nat} (hg : Gl X "enumerate") (hm : X.mg "enumerate" = none) (ha : PA X [e] ta) (hs : starEach [e] X.env = [(false, eval e X.env)] := by rfl) :
    PI X (.Tuple elts kk tpos) (.Call (.Name "enumerate" p) [e] [] pos) (iEnumT X.K ta) := by
  refine ⟨fun pins s σ H R I h => ?_⟩
  refine Call_ (ld_blt I hg hm boot_enumerate (PyProof.Rows.callWith_type1 (thn (ha.run pos pins s σ H _ I h) fun us s1 ⟨vs, H1, I1, r1, q1⟩ => ?_) hs rfl))
  obtain ⟨a, xs, ex, hq, q⟩ := q1
  subst ex
  cases r1 with
  | cons r rr =>
    cases rr
    cases r
    obtain ⟨its, rv, p', hz⟩ := I1.tuple hq
    have hlt : a < s1.heap.objs.size := by obtain ⟨o, ho, _⟩ := p'; exact Heap.lt_size ho
    refine call_enumerate_tuple (items := its.toArray) p' fun h' he hit hsz hk => wpAny_pyIter_enum he ?_
    have I2 : Inv X pins σ H1 { s1 with heap := h' } := I1.kept (t' := s1.toks) hk
    refine ⟨s1.heap.objs.size + 1, [s1.heap.objs.size + 1, s1.heap.objs.size], _, _, H1, rfl, I2, turn_enumT a (s1.heap.objs.size + 1) s1.heap.objs.size (Nat.ne_of_lt hlt) (Nat.ne_of_lt (Nat.lt_succ_of_lt hlt)), ⟨⟨.none, he⟩, hit, Nat.succ_ne_self _⟩, fun b hb => ?_, q⟩
    have e' : b = s1.heap.objs.size + 1 ∨ b = s1.heap.objs.size := by simpa using hb
    have hle : s1.heap.objs.size ≤ b := by
      rcases e' with z | z
      · rw [z]; exact Nat.le_add_right _ _
      · rw [z]; exact Nat.le_refl _
    exact I1.fpOk hle (I1.hok.fresh hle)
section
variable {K : PySem.W.Frag} {O : Org} {F : Zo} {H : Hp}
theorem itok_enumT {items : List D} {a : Addr} {vs : List V} (hr : RepL K F H items vs)
    (st : ∀ F2 H2 μ2, Ext F H F2 H2 → Hd K O F2 H2 μ2 → SqT K H2 a vs) : ItOk K O F H (enumD 0 items) (fun _ => True) (IteT K a) := by
  have hlen := hr.length
  refine ⟨fun i F2 H2 μ2 e hd _ h => ?_, fun i F2 H2 μ2 x H3 e hd _ h hy => ?_, fun i F2 H2 μ2 e hd _ h => ?_⟩
  · rw [enumD_len] at h
    have hl : i < vs.length := by omega
    exact ⟨vs, vs[i], st F2 H2 μ2 e hd, by simp [hl]⟩
  · rw [enumD_len] at h
    obtain ⟨T, y, rfl, hT, rfl, hx⟩ := hy
    obtain ⟨d, e1, e2⟩ := (hr.ext e).get' (hx vs (st F2 H2 μ2 e hd))
    refine ⟨_, .tup [.int (i : Nat), d], ext_newF hd hT, hd.newF hT, ?_, ⟨T, _, rfl, .inl ⟨.inr rfl, .inl upd_same⟩, .cons rfl (.cons (e2.ext (ext_newF hd hT)) RepL.nil)⟩⟩
    have := enumD_get (k := 0) e1
    rwa [Nat.zero_add] at this
  · rw [enumD_len] at h
    exact ⟨vs, st F2 H2 μ2 e hd, by omega⟩
/-- of a list that is written, but not while it is walked -/
theorem itok_enumM {items : List D} {p : Addr} {vs : List V} (h0 : H p = some (.lst vs)) (hr : RepL K F H items vs) : ItOk K O F H (enumD 0 items) (fun μ => μ p = some (.lst items)) (Ite K p) := by
  have hlen := hr.length
  have q : ∀ F2 H2 μ2, Hd K O F2 H2 μ2 → μ2 p = some (.lst items) → ∃ ws, SqL K H2 p ws ∧ RepL K F2 H2 items ws := fun F2 H2 μ2 hd k => by
    obtain ⟨_, ws, h1, h2⟩ := hd.own p _ k
    exact ⟨ws, SqL.of h1, h2⟩
  refine ⟨fun i F2 H2 μ2 e hd k h => ?_, fun i F2 H2 μ2 x H3 e hd k h hy => ?_, fun i F2 H2 μ2 e hd k h => ?_⟩
  · rw [enumD_len] at h
    obtain ⟨ws, h1, h2⟩ := q F2 H2 μ2 hd k
    have hl : i < ws.length := by rw [← h2.length]; exact h
    exact ⟨ws, ws[i], h1, by simp [hl]⟩
  · obtain ⟨ws, h1, h2⟩ := q F2 H2 μ2 hd k
    obtain ⟨T, y, rfl, hT, rfl, hx⟩ := hy
    obtain ⟨d, e1, e2⟩ := h2.get' (hx ws h1)
    refine ⟨_, .tup [.int (i : Nat), d], ext_newF hd hT, hd.newF hT, ?_, ⟨T, _, rfl, .inl ⟨.inr rfl, .inl upd_same⟩, .cons rfl (.cons (e2.ext (ext_newF hd hT)) RepL.nil)⟩⟩
    have := enumD_get (k := 0) e1
    rwa [Nat.zero_add] at this
  · rw [enumD_len] at h
    obtain ⟨ws, h1, h2⟩ := q F2 H2 μ2 hd k
    exact ⟨ws, h1, by rw [← h2.length]; exact h⟩
end
/-- enumerate of a list or a tuple -/
def diEnX (te : DTA) : DTI := fun δ μ q => te δ μ fun ds μ1 => match ds with
  | [.tup l] => q (enumD 0 l) (fun _ => True) μ1
  | [.lst l] => q (enumD 0 l) (fun _ => True) μ1
  | [.rol l] => q (enumD 0 l) (fun _ => True) μ1
  | [.adr p] => ∃ l, μ1 p = some (.lst l) ∧ q (enumD 0 l) (fun μ => μ p = some (.lst l)) μ1
  | _ => False
def iEnumX (K : PySem.W.Frag) (ta : TA) : TI := fun σ H R => ta σ H fun vs H1 => ∃ a, vs = [.ref a] ∧ ((∃ xs, SqT K H1 a xs ∧ R (IteT K a) H1) ∨ ∃ xs, SqL K H1 a xs ∧ R (Ite K a) H1)
theorem pi_enumX {X : Cx} {e : Expr} {ta : TA} {p pos tpos : Pos} {elts : List Expr} {kk : Nat} (hg : Gl X "enumerate") (hm : X.mg "enumerate" = none) (ha : PA X [e] ta) (hs : starEach [e] X.env = [(false, eval e X.env)]) :
    PI X (.Tuple elts kk tpos) (.Call (.Name "enumerate" p) [e] [] pos) (iEnumX X.K ta) := by
  refine ⟨fun pins s σ H R I h => ?_⟩
  refine Call_ (ld_blt I hg hm boot_enumerate (PyProof.Rows.callWith_type1 (thn (ha.run pos pins s σ H _ I h) fun us s1 ⟨vs, H1, I1, r1, q1⟩ => ?_) hs rfl))
  obtain ⟨a, ex, q1⟩ := q1
  subst ex
  cases r1 with
  | cons r rr =>
    cases rr
    cases r
    have fp : ∀ b ∈ [s1.heap.objs.size + 1, s1.heap.objs.size], FpOk X pins H1 b := fun b hb => by
      have e' : b = s1.heap.objs.size + 1 ∨ b = s1.heap.objs.size := by simpa using hb
      have hle : s1.heap.objs.size ≤ b := by
        rcases e' with z | z
        · rw [z]; exact Nat.le_add_right _ _
        · rw [z]; exact Nat.le_refl _
      exact I1.fpOk hle (I1.hok.fresh hle)
    rcases q1 with ⟨xs, hq, q⟩ | ⟨xs, hq, q⟩
    · obtain ⟨its, rv, p', hz⟩ := I1.tuple hq
      have hlt : a < s1.heap.objs.size := by obtain ⟨o, ho, _⟩ := p'; exact Heap.lt_size ho
      refine call_enumerate_tuple (items := its.toArray) p' fun h' he hit hsz hk => wpAny_pyIter_enum he ?_
      have I2 : Inv X pins σ H1 { s1 with heap := h' } := I1.kept (t' := s1.toks) hk
      exact ⟨s1.heap.objs.size + 1, [s1.heap.objs.size + 1, s1.heap.objs.size], _, _, H1, rfl, I2, turn_enumT a (s1.heap.objs.size + 1) s1.heap.objs.size (Nat.ne_of_lt hlt) (Nat.ne_of_lt (Nat.lt_succ_of_lt hlt)), ⟨⟨.none, he⟩, hit, Nat.succ_ne_self _⟩, fp, q⟩
    · obtain ⟨its, rv, p', hz⟩ := I1.list hq
      refine call_enumerate_list p'.isList fun h' he hit hsz hk => wpAny_pyIter_enum he ?_
      have I2 : Inv X pins σ H1 { s1 with heap := h' } := I1.kept (t' := s1.toks) hk
      exact ⟨s1.heap.objs.size + 1, [s1.heap.objs.size + 1, s1.heap.objs.size], _, _, H1, rfl, I2, turn_enum a (s1.heap.objs.size + 1) s1.heap.objs.size, ⟨⟨.none, he⟩, hit, Nat.succ_ne_self _⟩, fp, q⟩
theorem di_enX {O : Org} {X : Cx} {e : Expr} {t : DTA} {pos p tpos : Pos} {elts : List Expr} {kk : Nat} (hg : Gl X "enumerate") (hm : X.mg "enumerate" = none) (ha : DA O X [e] t) (hs : starEach [e] X.env = [(false, eval e X.env)] := by rfl) :
    DI O X (.Tuple elts kk tpos) (.Call (.Name "enumerate" p) [e] [] pos) (diEnX t) :=
  pi_weak (pi_enumX hg hm ha hs) fun σ H R ⟨F, δ, μ, q, hd, rs, t, k⟩ => ⟨F, δ, μ, _, hd, rs, t, fun F1 H1 μ1 ds vs e1 hd1 r1 t1 => by
    match ds, t1, r1 with
    | [.tup l], t1, r1 =>
      obtain ⟨v, rfl, h1⟩ := repL1 r1
      obtain ⟨a, us, rfl, h2, h3⟩ := h1
      exact ⟨a, rfl, .inl ⟨us, h2.sq, k F1 H1 μ1 _ _ _ e1 hd1 (itok_enumT h3 fun F2 H2 μ2 e2 hd2 => (h2.ext e2).sq) t1⟩⟩
    | [.lst l], t1, r1 =>
      obtain ⟨v, rfl, h1⟩ := repL1 r1
      obtain ⟨a, us, rfl, h2, h3⟩ := h1
      exact ⟨a, rfl, .inr ⟨us, SqL.of h2.2, k F1 H1 μ1 _ _ _ e1 hd1 (itok_enum h3 fun F2 H2 μ2 e2 hd2 => SqL.of ((e2.hf h2.1).trans h2.2)) t1⟩⟩
    | [.rol l], t1, r1 =>
      obtain ⟨v, rfl, h1⟩ := repL1 r1
      obtain ⟨a, us, rfl, h2, h3⟩ := h1
      exact ⟨a, rfl, .inr ⟨us, h2.sq, k F1 H1 μ1 _ _ _ e1 hd1 (itok_enum h3 fun F2 H2 μ2 e2 hd2 => (h2.ext e2).sq) t1⟩⟩
    | [.adr p], t1, r1 =>
      obtain ⟨v, rfl, h1⟩ := repL1 r1
      obtain rfl : v = .ref p := h1
      obtain ⟨l, hm, t1⟩ := t1
      obtain ⟨_, us, h2, h3⟩ := hd1.own p _ hm
      exact ⟨p, rfl, .inr ⟨us, SqL.of h2, k F1 H1 μ1 _ _ _ e1 hd1 (itok_enumM h2 h3) t1⟩⟩⟩
end DL

set_option Elab.async false
set_option linter.all false
set_option maxRecDepth 100000
/-! DE3: texts: walked, compared -/
namespace DL
open PySem L2
def rLeX : DR2 := fun x y μ q => match x, y with
  | .int i, .int j => q (.bl (decide (i ≤ j))) μ
  | .str i, .str j => q (.bl (!decide (j.cps.toList < i.cps.toList))) μ
  | _, _ => False
theorem op_leX {X : Cx} : OpR X (compareOp .LtE) (fun x y H Q => (rI0 fun i j => .bl (decide (i ≤ j))) x y H Q ∨ (fun x y H Q => ∃ i j, x = .str i ∧ y = .str j ∧ Q (.bl (!decide (j.cps.toList < i.cps.toList))) H) x y H Q) := op_le.or op_le_str
theorem od_leX {K : PySem.W.Frag} : OpD K (fun x y H Q => (rI0 fun i j => .bl (decide (i ≤ j))) x y H Q ∨ (fun x y H Q => ∃ i j, x = .str i ∧ y = .str j ∧ Q (.bl (!decide (j.cps.toList < i.cps.toList))) H) x y H Q) rLeX := by
  intro O F H μ x y v w q Q hd rx ry t k
  unfold rLeX at t
  split at t
  · rename_i i j
    obtain rfl : v = .int i := rx
    obtain rfl : w = .int j := ry
    exact .inl ⟨i, j, rfl, rfl, k F H μ _ _ (Ext.refl F H) hd rep_bl t⟩
  · rename_i i j
    obtain rfl : v = .str i := rx
    obtain rfl : w = .str j := ry
    exact .inr ⟨i, j, rfl, rfl, k F H μ _ _ (Ext.refl F H) hd rep_bl t⟩
  · exact t.elim
/-- the signs of a text -/
def sgs (z : Str) : List D := z.cps.toList.map fun c => .str ⟨#[c]⟩
theorem itok_str {K : PySem.W.Frag} {O : Org} {F : Zo} {H : Hp} (z : Str) : ItOk K O F H (sgs z) (fun _ => True) (Its z) := by
  have hl : (sgs z).length = z.cps.toList.length := by simp [sgs]
  refine ⟨fun i F2 H2 μ2 _ _ _ h => ?_, fun i F2 H2 μ2 x H3 e hd _ h hy => ?_, fun i F2 H2 μ2 _ _ _ h => ?_⟩
  · rw [hl] at h
    first | exact h | simpa using h
  · obtain ⟨rfl, c, hc, rfl⟩ := hy
    refine ⟨F2, .str ⟨#[c]⟩, Ext.refl _ _, hd, ?_, rfl⟩
    unfold sgs
    rw [List.getElem?_map, Array.getElem?_toList, hc]; rfl
  · rw [hl] at h
    first | exact h | simpa using h
/-- a list, a tuple, a text -/
def diSq (te : DTE) : DTI := fun δ μ q => te δ μ fun d μ1 => match d with
  | .tup l => q l (fun _ => True) μ1
  | .lst l => q l (fun _ => True) μ1
  | .rol l => q l (fun _ => True) μ1
  | .str z => q (sgs z) (fun _ => True) μ1
  | .adr p => ∃ l, μ1 p = some (.lst l) ∧ q l (fun μ => μ p = some (.lst l)) μ1
  | _ => False
def iSeqX (K : PySem.W.Frag) (tl : TE) : TI := fun σ H R => tl σ H fun x H1 => (∃ z, x = .str z ∧ R (Its z) H1) ∨ ∃ a, x = .ref a ∧ (((∃ xs, SqL K H1 a xs) ∧ R (Itl K a) H1) ∨ ((∃ xs, SqT K H1 a xs) ∧ R (Itt K a) H1))
theorem pi_seqX {X : Cx} {tg l : Expr} {tl : TE} (hl : PE X l tl) : PI X tg l (iSeqX X.K tl) := by
  constructor
  intro pins s σ H R I h
  refine thn (hl.run pins s σ H _ I h) ?_
  rintro v s1 ⟨x, H1, I1, r1, hq⟩
  have new := I1.hok.fresh (Nat.le_refl s1.heap.objs.size)
  have fp : ∀ b ∈ [s1.heap.objs.size], FpOk X pins H1 b := by
    intro b hb
    rw [List.mem_singleton.mp hb]
    exact I1.fpOk (Nat.le_refl _) new
  rcases hq with ⟨z, e, q⟩ | ⟨a, e, hq⟩
  · subst e
    obtain ⟨t, rfl⟩ := r1
    cases ha : z.cps.all (· < 128)
    · exact wpAny_pyIter_wide ha (pi_one (tk := s1.toks) I1 _ (turn_str _ z t "str_iterator" (.inr rfl)) ⟨_, Heap.get?_push_size _ rfl, rfl, rfl⟩ q)
    · exact wpAny_pyIter_ascii ha (pi_one (tk := s1.toks) I1 _ (turn_str _ z t "str_ascii_iterator" (.inl rfl)) ⟨_, Heap.get?_push_size _ rfl, rfl, rfl⟩ q)
  subst e
  cases r1
  rcases hq with ⟨⟨xs, hx⟩, q⟩ | ⟨⟨xs, hx⟩, q⟩
  · obtain ⟨its, _, pl, _⟩ := I1.list hx
    refine wpAny_pyIter_list pl.isList ?_
    exact ⟨s1.heap.objs.size, [s1.heap.objs.size], _, Itl X.K a, H1, rfl, I1.kept (t' := s1.toks) (fun _ _ z => Heap.get?_push_of_some _ z), turn_list a _, ⟨_, Heap.get?_push_size _ rfl, rfl, rfl⟩, fp, q⟩
  · obtain ⟨its, _, pl, _⟩ := I1.tuple hx
    refine wpAny_pyIter_tuple (items := its.toArray) pl ?_
    exact ⟨s1.heap.objs.size, [s1.heap.objs.size], _, Itt X.K a, H1, rfl, I1.kept (t' := s1.toks) (fun _ _ z => Heap.get?_push_of_some _ z), turn_tuple a _, ⟨_, Heap.get?_push_size _ rfl, rfl, rfl⟩, fp, q⟩
theorem di_sq {O : Org} {X : Cx} {tg e : Expr} {te : DTE} (he : DE O X e te) : DI O X tg e (diSq te) := pi_weak (pi_seqX he) fun σ H R ⟨F, δ, μ, q, hd, rs, t, k⟩ =>
  ⟨F, δ, μ, _, hd, rs, t, fun F1 H1 μ1 d v e1 hd1 r1 t1 => by
    cases d <;> first | exact False.elim t1 | skip
    · rename_i z
      exact .inl ⟨z, r1, k F1 H1 μ1 _ _ _ e1 hd1 (itok_str z) t1⟩
    · rename_i p
      obtain rfl : v = .ref p := r1
      obtain ⟨l, hm, t1⟩ := t1
      obtain ⟨_, vs, h1, h2⟩ := hd1.own p _ hm
      refine .inr ⟨p, rfl, .inl ⟨⟨vs, SqL.of h1⟩, k F1 H1 μ1 l _ _ e1 hd1 (itok_list h2 fun F2 H2 μ2 e2 hd2 k2 => ?_) t1⟩⟩
      obtain ⟨_, ws, h3, h4⟩ := hd2.own p _ k2
      exact .inr ⟨ws, SqL.of h3, h4⟩
    · obtain ⟨a, vs, rfl, h1, h2⟩ := r1
      exact .inr ⟨a, rfl, .inr ⟨⟨vs, h1.sq⟩, k F1 H1 μ1 _ _ _ e1 hd1 (itok_tup h2 h1) t1⟩⟩
    · obtain ⟨a, vs, rfl, h1, h2⟩ := r1
      exact .inr ⟨a, rfl, .inl ⟨⟨vs, SqL.of h1.2⟩, k F1 H1 μ1 _ _ _ e1 hd1 (itok_list h2 fun F2 H2 μ2 e2 hd2 k2 => .inl (SqL.of ((e2.hf h1.1).trans h1.2))) t1⟩⟩
    · obtain ⟨a, vs, rfl, h1, h2⟩ := r1
      exact .inr ⟨a, rfl, .inl ⟨⟨vs, h1.sq⟩, k F1 H1 μ1 _ _ _ e1 hd1 (itok_list h2 fun F2 H2 μ2 e2 hd2 k2 => .inl (h1.ext e2).sq) t1⟩⟩⟩
end DL

set_option Elab.async false
set_option linter.all false
set_option maxRecDepth 100000
/-! DW: list(range(a, b)) with ends of any size -/
namespace DL
open PySem L2 PySem.Spec PyProof.Rows
section
variable {prog : Program} {w : World} {A : Around} {E : Value → Shared → Prop} {s : Shared}
abbrev Fin2 (prog : Program) (w : World) (A : Around) (R : Result → Shared → Prop) : Fin → Shared → Prop := fun fin s' => match fin with
  | .done f => R (.ok f) s'
  | .again c' => c'.quiet = true ∧ codeAny (model prog w) A c' R s'
/-- what the filled list is -/
abbrev Filled (s : Shared) (S : Addr) (a c : Int) (n : Nat) (R : Result → Shared → Prop) (res : Value) : Prop :=
  ∀ h' tk acc' c', (∀ b o, b ≠ S → s.heap.get? b = some o → h'.get? b = some o) → h'.get? S = some { cls := .type "list", dict := none, data := .seq acc' c', slots := #[] } →
    ItemsOf (fun i v => ∃ t, v = .int (a + i * c) t) acc' n → R (.ok (.ret res)) { s with heap := h', toks := tk }
abbrev longObj (a b c : Int) : Obj := { cls := .type "longrange_iterator", data := .fields #[rawInt a, rawInt (Builtin.Range.rangeSize a b c), rawInt c] }
theorem extend_long {R : Result → Shared → Prop} {r : Addr} {a b c : Int} {t u v : Tok} {n : Nat} (hh : A.handled = none) (hr : IsRange s.heap r a b c t u v) (big : Builtin.Range.small a b c = false)
    (hn : Builtin.Range.rangeSize a b c = n) (hlen : n ≤ 2 ^ 24) (S : Addr) (res : Value) (c₀ : Nat) (hS : s.heap.get? S = some { cls := .type "list", data := .seq #[] c₀ }) (hR : Filled s S a c n R res) :
    wpAny (model prog w) A.in1 (Builtin.List.listExtendWith (.ref S) (.ref r) res) (Fin2 prog w A R) (fun e s' => R (.error e) s') s := by
  have ne : S ≠ r := fun e => by rw [e, hr] at hS; simp at hS
  have lt : S < s.heap.objs.size := Heap.lt_size hS
  have neI : S ≠ s.heap.objs.size := Nat.ne_of_lt lt
  have W := (Walks.longrange (prog := prog) (w := w) (A := A.in1) hh s.heap.objs.size a c n).toS
  have go : ∀ (h : Heap) (c₁ tk : Nat), IsLongIter h s.heap.objs.size (a + ((0 : Nat) : Int) * c) ((n : Int) - ((0 : Nat) : Int)) c → (∀ b o, b ≠ S → s.heap.get? b = some o → h.get? b = some o) →
      h.get? S = some { cls := .type "list", data := .seq #[] c₁ } → codeAny (model prog w) A (.builtin "list.extend.loop" ⟨[.ref S, .ref s.heap.objs.size, res], []⟩) R { s with heap := h, toks := tk } := by
    intro h c₁ tk it keep hS1
    refine codeAny_extend_loopS W (by rw [sizeLine_eq]; omega) S (fun z => neI (List.mem_singleton.mp z)) res n 0 _ #[] c₁ rfl (Nat.zero_le _) it hS1 (ItemsOf.nil _) fun s2 acc2 c2 mv hS2 its => ?_
    rw [Moved.eq_with mv]
    refine hR s2.heap s2.toks acc2 c2 (fun b o hb e => mv.heap b o (fun z => ?_) (keep b o hb e)) hS2 its
    rcases List.mem_cons.mp z with z | z
    · exact hb z
    · rw [List.mem_singleton.mp z] at e
      exact Nat.lt_irrefl _ (Heap.lt_size e)
  unfold Builtin.List.listExtendWith
  refine wpAny_bind (wpAny_typeOf (T := "range") ⟨_, hr, rfl⟩ ?_)
  simp only [show Builtin.List.listSameRef (.ref S) (.ref r) = false by simp [Builtin.List.listSameRef, ne], show (Value.type "range" == Value.type "list") = false by decide, show (Value.type "range" == Value.type "tuple") = false by decide, Bool.or_false, Bool.false_eq_true, if_false]
  refine wpAny_bind (wpAny_pyIter_longrange hr big ?_)
  refine wpAny_bind (wpAny_holding (wpAny_hint_range (n := n) (Heap.get?_push_of_some _ hr) hn hlen ?_))
  have it1 : IsLongIter (s.heap.push (longObj a b c)) s.heap.objs.size (a + ((0 : Nat) : Int) * c) ((n : Int) - ((0 : Nat) : Int)) c := by
    show IsLongIter _ _ _ _ _
    rw [← hn]; simpa using Heap.get?_push_size _ rfl
  have hS1 := Heap.get?_push_of_some (longObj a b c) hS
  refine wpAny_ite_split (fun _ => ?_) (fun _ => wpAny_pure ⟨plainId_quiet F.plain_extend_loop _, go _ c₀ _ it1 (fun b o _ e => Heap.get?_push_of_some _ e) hS1⟩)
  refine wpAny_bind (wpAny_rule (wpAny_bind ?_))
  show wpAny _ _ (updateSeq S (·.push .none) >>= fun _ => updateSeq S (·.pop)) _ _ _
  refine wpAny_bind (wpAny_updateSeq hS1 rfl ?_)
  have hS2 := Heap.get?_update_self (Obj.mapSeq (·.push Value.none)) hS1 rfl
  refine wpAny_updateSeq (hz := by seq_fits) hS2 rfl ?_
  have hS3 := Heap.get?_update_self (Obj.mapSeq (·.pop)) hS2 rfl
  refine wpAny_pure ⟨plainId_quiet F.plain_extend_loop _, go _ _ _ ?_ (fun b o hb e => ?_) hS3⟩
  · rw [IsLongIter, Heap.get?_update_other _ _ neI, Heap.get?_update_other _ _ neI]; exact it1
  · rw [Heap.get?_update_other _ _ (Ne.symm hb), Heap.get?_update_other _ _ (Ne.symm hb)]; exact Heap.get?_push_of_some _ e
theorem list_long {Q : Value → Shared → Prop} {r : Addr} {a b c : Int} {t u v : Tok} {n : Nat} (hh : A.handled = none) (hr : IsRange s.heap r a b c t u v) (big : Builtin.Range.small a b c = false)
    (hn : Builtin.Range.rangeSize a b c = n) (hlen : n ≤ 2 ^ 24)
    (hQ : ∀ h' tk acc' c', (∀ b o, s.heap.get? b = some o → h'.get? b = some o) →
      h'.get? s.heap.objs.size = some { cls := .type "list", dict := none, data := .seq acc' c', slots := #[] } → ItemsOf (fun i v => ∃ t, v = .int (a + i * c) t) acc' n → Q (.ref s.heap.objs.size) { s with heap := h', toks := tk }) :
    wpAny (model prog w) A (call (.type "list") [.ref r]) Q E s := by
  refine callType_codes (Q₁ := fun obj s₁ => obj = .ref s.heap.objs.size ∧ s₁ = { s with heap := s.heap.push { cls := .type "list", data := .seq #[] } }) F.called_list (F.typeCall_list_1 _) F.entry_list_init
    (code_list_new _ ⟨rfl, rfl⟩) fun obj s₁ ⟨e1, e2⟩ => ?_
  subst e1 e2
  have hS : (s.heap.push { cls := .type "list", data := .seq #[] }).get? s.heap.objs.size = some { cls := .type "list", data := .seq #[] } := Heap.get?_push_size _ rfl
  have hr1 : IsRange (s.heap.push { cls := .type "list", data := .seq #[] }) r a b c t u v := Heap.get?_push_of_some _ hr
  have ne : s.heap.objs.size ≠ r := Nat.ne_of_gt (Heap.lt_size hr)
  refine ⟨⟨_, hS, rfl⟩, F.args_list_init_2 _ _, ?_⟩
  show wpAny _ _ (do let old ← Builtin.List.listItems (.ref s.heap.objs.size); Builtin.List.listUpdate (.ref s.heap.objs.size) (fun _ => #[]); letGo old.toList.reverse; Builtin.List.listExtendWith (.ref s.heap.objs.size) (.ref r) .none) _ _ _
  refine wpAny_bind ?_
  unfold Builtin.List.listItems
  refine wpAny_bind (wpAny_seqItems hS rfl (wpAny_pure ?_))
  show wpAny _ _ (updateSeq s.heap.objs.size (fun _ => #[]) >>= fun _ => letGo (#[] : Array Value).toList.reverse >>= fun _ => Builtin.List.listExtendWith (.ref s.heap.objs.size) (.ref r) .none) _ _ _
  refine wpAny_bind (wpAny_updateSeq hS rfl ?_)
  have hS2 := Heap.get?_update_self (Obj.mapSeq (fun _ => (#[] : Array Value))) hS rfl
  refine wpAny_bind (wpAny_letGo ?_)
  refine extend_long (A := A.in1) hh ((Heap.get?_update_other _ _ ne).trans hr1) big hn hlen _ .none _ hS2 fun h' tk acc' c' hk hS' its => ?_
  exact ⟨rfl, hQ h' tk acc' c' (fun b o e => hk b o (Nat.ne_of_lt (Heap.lt_size e)) ((Heap.get?_update_other _ _ (Nat.ne_of_gt (Heap.lt_size e))).trans (Heap.get?_push_of_some _ e))) hS' its⟩
end
section
variable {O : Org} {X : Cx} {a b e : Expr} {ta tb : DTE} {p p2 pos pos2 : Pos} {te : L2.St → Hp → (Int → Int → Hp → Prop) → Prop}
def tLstRgW (te : L2.St → Hp → (Int → Int → Hp → Prop) → Prop) : TE := fun σ H Q => te σ H fun a b H1 => (b - a).toNat ≤ 2 ^ 24 ∧ ∀ q, H1 q = none → Q (.ref q) (upd H1 q (.lst (rgV a b)))
theorem pe_listRgW (hc : X.calm = true) (hg : Gl X "list") (hm : X.mg "list" = none) (he : PRg X e te) (na : starEach [e] X.env = (false, eval e X.env) :: starEach [] X.env) : PE X (.Call (.Name "list" p) [e] [] pos) (tLstRgW te) := by
  refine ⟨fun pins s σ H Q I h => ?_⟩
  refine Call_ (ld_blt I hg hm boot_list (PyProof.Rows.callWith_type1 (args_cons (thn (he pins s σ H _ I h) fun x s1 ⟨r, a, b, t, u, v, H1, ex, hr, I1, ok, q⟩ => args_nil ?_) na) na))
  subst ex
  have fin : ∀ h' tk (acc : Array Value) c', (∀ b o, s1.heap.get? b = some o → h'.get? b = some o) → h'.get? s1.heap.objs.size = some { cls := .type "list", dict := none, data := .seq acc c', slots := #[] } →
      ItemsOf (fun i v => ∃ t, v = .int (a + i * 1) t) acc (b - a).toNat → EP X pins σ Q (.ref s1.heap.objs.size) { s1 with heap := h', toks := tk } := fun h' tk acc c' hk e' hi => by
    refine ⟨.ref s1.heap.objs.size, upd H1 s1.heap.objs.size (.lst (rgV a b)), I1.laid hk (Nat.le_refl _) (show ObjOk X.prog X.w _ _ _ (.lst (rgV a b)) from ⟨?_, acc.toList, c', vals_rg hi, ?_⟩), rfl, q _ (I1.hok.fresh (Nat.le_refl _))⟩
    · rw [rgV_length, sizeLine_eq]; omega
    · rw [Array.toArray_toList]; exact e'
  cases hs : Builtin.Range.small a b 1 with
  | true => exact call_list_range (n := (b - a).toNat) (I1.ok.hd hc) hr hs (rangeSize_nat a b) ok fin
  | false => exact list_long (n := (b - a).toNat) (I1.ok.hd hc) hr hs (rangeSize_nat a b) ok fin
/-- list(range(a, b)) -/
def dLstRw (ta tb : DTE) : DTE := fun δ μ q => ta δ μ fun x μ1 => tb δ μ1 fun y μ2 => match x, y with
  | .int i, .int j => (j - i).toNat ≤ 2 ^ 24 ∧ q (.lst (intsD i (j - i).toNat)) μ2
  | _, _ => False
def dLstRwM (ta tb : DTE) : DTE := fun δ μ q => ta δ μ fun x μ1 => tb δ μ1 fun y μ2 => match x, y with
  | .int i, .int j => (j - i).toNat ≤ 2 ^ 24 ∧ ∀ p, μ2 p = none → q (.adr p) (updM μ2 p (.lst (intsD i (j - i).toNat)))
  | _, _ => False
theorem de_listRw2 (hc : X.calm = true) (hl : Gl X "list") (hml : X.mg "list" = none) (hg : Gl X "range") (hm : X.mg "range" = none) (ha : DE O X a ta) (hb : DE O X b tb)
    (na : starEach [a, b] X.env = (false, eval a X.env) :: starEach [b] X.env := by rfl) (nb : starEach [b] X.env = (false, eval b X.env) :: starEach [] X.env := by rfl) (hp : (backTo pos2 (starEach [b] X.env)).any (·.1) = false := by rfl)
    (ne : starEach [Expr.Call (.Name "range" p2) [a, b] [] pos2] X.env = (false, eval (.Call (.Name "range" p2) [a, b] [] pos2) X.env) :: starEach [] X.env := by rfl) :
    DE O X (.Call (.Name "list" p) [.Call (.Name "range" p2) [a, b] [] pos2] [] pos) (dLstRw ta tb) :=
  pe_weak (pe_listRgW hc hl hml (prg_2 hg hm ha hb na nb hp) ne) fun σ H Q ⟨F, δ, μ, q, hd, rs, t, k⟩ =>
  ⟨F, δ, μ, _, hd, rs, t, fun F1 H1 μ1 x v e1 hd1 r1 t1 => ⟨F1, δ, μ1, _, hd1, rs.ext e1, t1, fun F2 H2 μ2 y u e2 hd2 r2 t2 => by
    have r1 := r1.ext e2
    match x, y, t2, r1, r2 with
    | .int i, .int j, ⟨ok, t2⟩, r1, r2 =>
    obtain rfl : v = .int i := r1
    obtain rfl : u = .int j := r2
    exact ⟨i, j, rfl, rfl, ok, fun q hq => k _ _ μ2 (.lst _) (.ref q) ((e1.trans e2).trans (ext_newF hd2 hq)) (hd2.newF hq) ⟨q, _, rfl, ⟨.inr rfl, upd_same⟩, rg_rep i j⟩ t2⟩⟩⟩
theorem de_listRw2M (hc : X.calm = true) (hl : Gl X "list") (hml : X.mg "list" = none) (hg : Gl X "range") (hm : X.mg "range" = none) (ha : DE O X a ta) (hb : DE O X b tb)
    (na : starEach [a, b] X.env = (false, eval a X.env) :: starEach [b] X.env := by rfl) (nb : starEach [b] X.env = (false, eval b X.env) :: starEach [] X.env := by rfl) (hp : (backTo pos2 (starEach [b] X.env)).any (·.1) = false := by rfl)
    (ne : starEach [Expr.Call (.Name "range" p2) [a, b] [] pos2] X.env = (false, eval (.Call (.Name "range" p2) [a, b] [] pos2) X.env) :: starEach [] X.env := by rfl) :
    DE O X (.Call (.Name "list" p) [.Call (.Name "range" p2) [a, b] [] pos2] [] pos) (dLstRwM ta tb) :=
  pe_weak (pe_listRgW hc hl hml (prg_2 hg hm ha hb na nb hp) ne) fun σ H Q ⟨F, δ, μ, q, hd, rs, t, k⟩ =>
  ⟨F, δ, μ, _, hd, rs, t, fun F1 H1 μ1 x v e1 hd1 r1 t1 => ⟨F1, δ, μ1, _, hd1, rs.ext e1, t1, fun F2 H2 μ2 y u e2 hd2 r2 t2 => by
    have r1 := r1.ext e2
    match x, y, t2, r1, r2 with
    | .int i, .int j, ⟨ok, t2⟩, r1, r2 =>
    obtain rfl : v = .int i := r1
    obtain rfl : u = .int j := r2
    exact ⟨i, j, rfl, rfl, ok, fun q hq => k _ _ _ (.adr q) (.ref q) ((e1.trans e2).trans (ext_new hd2 hq)) (hd2.newM (m := .lst _) hq ⟨_, upd_same, rg_rep i j⟩) rfl (t2 q (hd2.free hq))⟩⟩⟩
end
end DL

set_option Elab.async false
set_option linter.all false
set_option maxRecDepth 100000
/-! DQ: math.isqrt, xs[::-1] -/
namespace L2
open PySem PySem.Spec PyProof.Rows
def rIsq : List V → Hp → VK → Prop := fun vs H Q => ∃ a : Int, vs = [.int a] ∧ 0 ≤ a ∧ a < 2 ^ 64 ∧ Q (.int ((Float64.isqrt a.toNat : Nat) : Int)) H
theorem cr_isq {X : Cx} : CallR X (.builtin "math.isqrt") rIsq := by
  intro pins s σ H vs us Q I r h
  obtain ⟨a, rfl, h0, h1, q⟩ := h
  cases r with
  | cons r rr =>
    cases rr
    obtain ⟨t, rfl⟩ := r
    exact PySem.W.mg_isqrt h0 h1 ⟨.int _, H, I.tok _, ⟨_, rfl⟩, q⟩
end L2
namespace DL
open PySem L2 PySem.Spec PyProof.Rows
def rIsqD : DC2 := fun ds μ q => match ds with | [.int a] => 0 ≤ a ∧ a < 2 ^ 64 ∧ q (.int ((Float64.isqrt a.toNat : Nat) : Int)) μ | _ => False
theorem cd_isq {K : PySem.W.Frag} : CallD K rIsq rIsqD := by
  intro O F H μ ds vs q Q hd rs t k
  unfold rIsqD at t
  split at t
  · rename_i i
    obtain ⟨v, rfl, h1⟩ := repL1 rs
    obtain rfl : v = .int i := h1
    exact ⟨i, rfl, t.1, t.2.1, k F H μ _ _ (Ext.refl F H) hd rep_int t.2.2⟩
  · exact t.elim
theorem RepL.reverse {K : PySem.W.Frag} {F : Zo} {H : Hp} : ∀ {l : List D} {vs : List V}, RepL K F H l vs → RepL K F H l.reverse vs.reverse
  | [], vs, h => by
    have h : vs = [] := h
    subst h; exact RepL.nil
  | d :: l, _, ⟨v, r, h1, h2, h3⟩ => by
    subst h1
    rw [List.reverse_cons, List.reverse_cons]
    exact (RepL.reverse h3).append (.cons h2 RepL.nil)
def dRevL (te : DTE) : DTE := fun δ μ q => te δ μ fun d μ1 => match lstOf μ1 d with | some l => q (.lst l.reverse) μ1 | none => False
theorem de_revL {O : Org} {X : Cx} {e : Expr} {te : DTE} {k : Nat} {p1 p2 p3 pos : Pos} (he : DE O X e te) : DE O X (.Subscript e (.Slice none none (some (.UnaryOp .USub (.Constant (.int 1) k p1) p2)) p3) pos) (dRevL te) :=
  pe_weak (pe_revL he) fun σ H Q ⟨F, δ, μ, q, hd, rs, t, k⟩ => ⟨F, δ, μ, _, hd, rs, t, fun F1 H1 μ1 d v e1 hd1 r1 t1 => by
    split at t1
    · rename_i l e0
      obtain ⟨a, vs, rfl, h1, h2⟩ := list_sq hd1 r1 e0
      exact ⟨a, vs, rfl, h1, fun p hp => k _ _ μ1 (.lst l.reverse) (.ref p) (e1.trans (ext_newF hd1 hp)) (hd1.newF hp) ⟨p, vs.reverse, rfl, ⟨.inr rfl, upd_same⟩, h2.reverse.ext (ext_newF hd1 hp)⟩ t1⟩
    · exact t1.elim⟩
end DL

set_option linter.all false
set_option maxRecDepth 100000
set_option maxHeartbeats 1000000
/-! what the laws' texts have in common -/
namespace Law
open PySem L2 DL
theorem natAbs_lt {x : Int} (h0 : -(2 ^ 256) < x) (h : x < 2 ^ 256) : x.natAbs < 2 ^ 256 := by omega
theorem CDiv_of {i j : Int} (h0 : 0 < j) (h : j < 2 ^ 256) : CDivD i j := ⟨h0, 256, by omega, by decide, by decide⟩
theorem CMul_of {i j : Int} (h0 : -(2 ^ 256) < i) (h : i < 2 ^ 256) (h0' : -(2 ^ 256) < j) (h' : j < 2 ^ 256) : CMulD i j := ⟨256, 256, by omega, by omega, by decide⟩
theorem CMul_nat {a b : Nat} (h : a < 2 ^ 256) (h' : b < 2 ^ 256) : CMulD (a : Int) (b : Int) := CMul_of (by omega) (by omega) (by omega) (by omega)
theorem CDiv_nat {i : Int} {b : Nat} (h : 0 < b) (h' : b < 2 ^ 256) : CDivD i (b : Int) := CDiv_of (by omega) (by omega)
theorem CPow_of {i : Int} {j : Nat} (h0 : -(2 ^ 64) < i) (h : i < 2 ^ 64) (hj : j ≤ 10000) : CPowD i (j : Int) := ⟨by omega, 64, by omega, by omega⟩
theorem CPow_big {i : Int} {j : Nat} (h0 : -(2 ^ 256) < i) (h : i < 2 ^ 256) (hj : j ≤ 10000) : CPowD i (j : Int) := ⟨by omega, 256, by omega, by omega⟩
/-- behind a body: the answer -/
theorem fin {q : DK} {μ : Mu} {x y : D} (h : q y μ) (e : x = y) : ∃ μ2, Sub μ2 μ ∧ q x μ2 := ⟨μ, Sub.refl μ, e ▸ h⟩
/-- .. what was made on the way is dropped -/
theorem finS {q : DK} {μ μ2 : Mu} {x y : D} (s : Sub μ2 μ) (h : q y μ2) (e : x = y) : ∃ μ2, Sub μ2 μ ∧ q x μ2 := ⟨μ2, s, e ▸ h⟩
theorem iteB {b : Bool} {A B : Prop} (h1 : b = true → A) (h2 : b = false → B) : if b = true then A else B := by
  cases b with
  | true => rw [if_pos rfl]; exact h1 rfl
  | false => rw [if_neg (by decide)]; exact h2 rfl
theorem iteT {b : Bool} {A B : Prop} (h : b = true) (a : A) : if b = true then A else B := by rw [if_pos h]; exact a
theorem iteF {b : Bool} {A B : Prop} (h : b = false) (a : B) : if b = true then A else B := by rw [if_neg (by rw [h]; decide)]; exact a
theorem iteD {c : Prop} [Decidable c] {A B : Prop} (h1 : c → A) (h2 : ¬ c → B) : if decide c = true then A else B := iteB (fun h => h1 (of_decide_eq_true h)) fun h => h2 (of_decide_eq_false h)
theorem iteDT {c : Prop} [Decidable c] {A B : Prop} (h : c) (a : A) : if decide c = true then A else B := iteD (fun _ => a) fun z => absurd h z
theorem iteDF {c : Prop} [Decidable c] {A B : Prop} (h : ¬ c) (a : B) : if decide c = true then A else B := iteD (fun z => absurd z h) fun _ => a
theorem iteP {c : Prop} [Decidable c] {A B : Prop} (h : c) (a : A) : if c then A else B := by rw [if_pos h]; exact a
theorem sz {ds : List D} (n : Nat) (e : ds.length = n) (h : n ≤ 1000) : ds.length ≤ sizeLine := by rw [sizeLine_eq]; omega
theorem mod_ne {a b : Int} (h : 0 < b) : 0 ≤ a % b ∧ a % b < b := ⟨Int.emod_nonneg a (by omega), Int.emod_lt_of_pos a h⟩
theorem seq_asg {te : DTE} {g : DTG} {r : DTS} {E : DEnds} {δ : DS} {μ : Mu} (h : te δ μ fun d μ1 => g d δ μ1 (r E)) : dSeq (dAsg te g) r E δ μ := h
theorem one_asg {te : DTE} {g : DTG} {E : DEnds} {δ : DS} {μ : Mu} (h : te δ μ fun d μ1 => g d δ μ1 E.nx) : dAsg te g E δ μ := h
theorem ret_callc {c : DSp} {e : DX} {dds : List D} {x : DTE} {t : DTA} {E : DEnds} {δ : DS} {μ : Mu} (h : x δ μ fun d μ1 => t δ μ1 fun ds μ2 => c (d :: ds ++ dds) μ2 E.rt e) : dRet (dCall c e dds (dCons x t)) E δ μ := h
theorem callc {c : DSp} {e : DX} {dds : List D} {x : DTE} {t : DTA} {q : DK} {δ : DS} {μ : Mu} (h : x δ μ fun d μ1 => t δ μ1 fun ds μ2 => c (d :: ds ++ dds) μ2 q e) : dCall c e dds (dCons x t) δ μ q := h
theorem seq_par {i j : Nat} {x y : DTE} {r : DTS} {E : DEnds} {δ : DS} {μ : Mu} (h : x δ μ fun d μ1 => y δ μ1 fun e μ2 => r E ((δ.set i (some d)).set j (some e)) μ2) : dSeq (dPar i j (dCons x (dCons y dNil))) r E δ μ := h
/-! lists of whole numbers -/
theorem ints_get {lo : Int} {n i : Nat} {d : D} (h : (intsD lo n)[i]? = some d) : i < n ∧ d = .int (lo + i) := by
  unfold intsD at h
  rw [List.getElem?_map] at h
  obtain ⟨j, hj, rfl⟩ := Option.map_eq_some_iff.mp h
  obtain ⟨hl, e⟩ := List.getElem?_eq_some_iff.mp hj
  rw [List.getElem_range] at e
  subst e
  exact ⟨by simpa using hl, rfl⟩
theorem ints_len (lo : Int) (n : Nat) : (intsD lo n).length = n := by simp [intsD]
theorem map_get {α : Type} {f : α → D} {l : List α} {i : Nat} {d : D} (h : (l.map f)[i]? = some d) : ∃ x, l[i]? = some x ∧ d = f x := by
  rw [List.getElem?_map] at h
  obtain ⟨x, h1, rfl⟩ := Option.map_eq_some_iff.mp h
  exact ⟨x, h1, rfl⟩
theorem plain_ints (k : Nat) (l : List Int) : plainDs k (l.map D.int) = true := by
  induction l with
  | nil => cases k <;> rfl
  | cons x l ih => cases k <;> exact ih
theorem atI_some {α : Type} {l : List α} {x : Int} (x0 : 0 ≤ x) (x1 : x < l.length) : ∃ v, atI l x = some v ∧ l[x.toNat]? = some v := by
  have h : x.toNat < l.length := by omega
  refine ⟨l[x.toNat], ?_, by simp [h]⟩
  have e : ((x.toNat : Nat) : Int) = x := by omega
  have := atI_lt (l := l) (k := x.toNat) (x := l[x.toNat]) (by simp [h])
  rwa [e] at this
/-- an item of a list that stands -/
theorem ixL {μ : Mu} {l : List D} {x : Int} {q : DK} (x0 : 0 ≤ x) (x1 : x < l.length) (k : ∀ v, l[x.toNat]? = some v → q v μ) : rIxG (.lst l) (.int x) μ q := by
  obtain ⟨v, h1, h2⟩ := atI_some x0 x1
  show (match atI l x with | some d => q d μ | none => False)
  rw [h1]; exact k v h2
theorem ixH (μ : Mu) {d : D} {l : List D} {q : DK} (k : q d μ) : rIxG (.lst (d :: l)) (.int 0) μ q := by
  show (match atI (d :: l) 0 with | some d => q d μ | none => False)
  rw [ix0]; exact k
theorem nrm_adr {μ : Mu} {p : Addr} {l : List D} (h : μ p = some (.lst l)) : nrm μ (.adr p) = .lst l := by simp [nrm, h]
theorem nrm_new {μ : Mu} {p : Addr} {l : List D} : nrm (updM μ p (.lst l)) (.adr p) = .lst l := nrm_adr (updM_same _ _ _)
theorem pickL (l : List Int) (P : Int → Prop) (μ : Mu) {x : Int} {q : DK} (x0 : 0 ≤ x) (x1 : x < l.length) (h : ∀ v ∈ l, P v) (k : ∀ v, P v → q (.int v) μ) : rIxG (.lst (l.map D.int)) (.int x) μ q := by
  refine ixL x0 (by simpa using x1) fun v hv => ?_
  obtain ⟨y, h1, rfl⟩ := map_get hv
  exact k y (h y (List.mem_of_getElem? h1))
/-! ### a source of draws, behind at most n draws -/
def Src (p : Addr) (μ : Mu) (n : Int) : Prop := ∃ g s c, μ p = some (.lst [.int g, .int s, .int c]) ∧ 0 ≤ g ∧ 0 ≤ s ∧ s < 2 ^ 62 ∧ 0 ≤ c ∧ c ≤ n
/-- all but p stands as it stood -/
def Ge (p : Addr) (μ μ' : Mu) : Prop := ∀ a m, a ≠ p → μ a = some m → μ' a = some m
theorem Ge.refl {p : Addr} {μ : Mu} : Ge p μ μ := fun _ _ _ h => h
theorem Ge.trans {p : Addr} {μ μ1 μ2 : Mu} (h : Ge p μ μ1) (k : Ge p μ1 μ2) : Ge p μ μ2 := fun a m z e => k a m z (h a m z e)
theorem Ge.upd {p : Addr} {μ : Mu} {m : M} : Ge p μ (updM μ p m) := fun a _ z e => (updM_ne z).trans e
theorem Ge.new {p r : Addr} {μ : Mu} {m : M} (h : μ r = none) : Ge p μ (updM μ r m) := fun a m' z e => by
  have : a ≠ r := fun z => by rw [z, h] at e; cases e
  exact (updM_ne this).trans e
theorem Ge.set {p r : Addr} {μ μ' : Mu} {m : M} (k : Ge p μ μ') (h : μ r = none) : Ge p μ (updM μ' r m) := fun a m' z e => by
  have : a ≠ r := fun z => by rw [z, h] at e; cases e
  exact (updM_ne this).trans (k a m' z e)
theorem Src.ne {p r : Addr} {μ : Mu} {n : Int} (h : Src p μ n) (k : μ r = none) : r ≠ p := fun z => by
  obtain ⟨_, _, _, e, _⟩ := h
  rw [z, e] at k; cases k
theorem Src.le {p : Addr} {μ : Mu} {n m : Int} (h : Src p μ n) (k : n ≤ m) : Src p μ m := by
  obtain ⟨g, s, c, e, a1, a2, a3, a4, a5⟩ := h
  exact ⟨g, s, c, e, a1, a2, a3, a4, by omega⟩
theorem Src.at {p : Addr} {μ μ' : Mu} {n : Int} (h : Src p μ n) (k : μ' p = μ p) : Src p μ' n := by
  obtain ⟨g, s, c, e, r⟩ := h
  exact ⟨g, s, c, k.trans e, r⟩
theorem Src.upd {p r : Addr} {μ : Mu} {n : Int} {m : M} (h : Src p μ n) (k : μ r = none) : Src p (updM μ r m) n := h.at (updM_ne (h.ne k).symm)
theorem cut_mem {l : List D} {lo hi : Option Int} {i : Nat} {d : D} (h : (cutD l lo hi)[i]? = some d) : d ∈ l := by
  have := List.mem_of_getElem? h
  unfold cutD at this
  exact List.mem_of_mem_drop (List.mem_of_mem_take this)
theorem cut_len {l : List D} {lo hi : Option Int} : (cutD l lo hi).length ≤ l.length := by
  unfold cutD; simp only [List.length_take, List.length_drop]; omega
end Law

set_option linter.all false
/-! k47: lengths free of conflicts -/
namespace Ar
def fre (w b L : Nat) : Bool := decide (w ≤ b / Nat.gcd L b)
theorem gcd_mod' (L b : Nat) : Nat.gcd (L % b) b = Nat.gcd L b := by
  rw [← Nat.gcd_rec, Nat.gcd_comm]
theorem fre_mod (w b L : Nat) : fre w b (L % b) = fre w b L := by unfold fre; rw [gcd_mod']
def mk (w b : Nat) : List Nat := (List.range b).filter (fre w b)
def cm (ms : List Nat) (b n : Nat) : Nat := n / b * ms.length + (ms.filter fun m => decide (m < n % b)).length
theorem filt_lt (w b : Nat) : ∀ k, k ≤ b → ((mk w b).filter fun m => decide (m < k)).length = ((List.range k).filter (fre w b)).length := by
  intro k hk
  have e : ((mk w b).filter fun m => decide (m < k)) = (List.range k).filter (fre w b) := by
    unfold mk
    rw [List.filter_filter]
    have e2 : List.range b = List.range k ++ (List.range (b - k)).map (k + ·) := by
      rw [← List.range_add]; congr 1; omega
    rw [e2, List.filter_append]
    have e3 : ((List.range (b - k)).map (k + ·)).filter (fun a => decide (a < k) && fre w b a) = [] := by
      rw [List.filter_eq_nil_iff]
      intro a ha
      obtain ⟨i, _, rfl⟩ := List.mem_map.mp ha
      have : ¬ (k + i < k) := by omega
      simp [this]
    rw [e3, List.append_nil]
    apply List.filter_congr
    intro a ha
    have := List.mem_range.mp ha
    simp [this]
  rw [e]
theorem rng_succ (p : Nat → Bool) (k : Nat) : ((List.range (k + 1)).filter p).length = ((List.range k).filter p).length + (if p k = true then 1 else 0) := by
  rw [List.range_succ, List.filter_append, List.length_append]
  congr 1
  by_cases h : p k = true <;> simp [h]
theorem cm_zero (ms : List Nat) (b : Nat) : cm ms b 0 = 0 := by simp [cm]
theorem cm_succ {w b : Nat} (hb : 0 < b) (n : Nat) : cm (mk w b) b (n + 1) = cm (mk w b) b n + (if fre w b n = true then 1 else 0) := by
  unfold cm
  have h1 := Nat.div_add_mod n b
  have h2 := Nat.mod_lt n hb
  have hf := fre_mod w b n
  by_cases hr : n % b + 1 = b
  · have e1 : n + 1 = b * (n / b + 1) := by rw [Nat.mul_add]; omega
    have d1 : (n + 1) / b = n / b + 1 := by rw [e1]; exact Nat.mul_div_cancel_left _ hb
    have d2 : (n + 1) % b = 0 := by rw [e1]; exact Nat.mul_mod_right _ _
    rw [d1, d2]
    have z : ((mk w b).filter fun m => decide (m < 0)) = [] := by simp
    rw [z, filt_lt w b (n % b) (by omega)]
    have l : (mk w b).length = ((List.range (n % b + 1)).filter (fre w b)).length := by unfold mk; rw [hr]
    rw [rng_succ, hf] at l
    rw [Nat.add_mul, l]
    simp only [List.length_nil]
    omega
  · have e1 : n + 1 = b * (n / b) + (n % b + 1) := by omega
    have hlt : n % b + 1 < b := by omega
    have d1 : (n + 1) / b = n / b := by
      rw [e1, Nat.mul_add_div hb, Nat.div_eq_of_lt hlt]; omega
    have d2 : (n + 1) % b = n % b + 1 := by
      rw [e1, Nat.mul_add_mod, Nat.mod_eq_of_lt hlt]
    rw [d1, d2, filt_lt w b _ (by omega), filt_lt w b _ (by omega), rng_succ, hf]
    omega
theorem cm_add {w b : Nat} (hb : 0 < b) (lo : Nat) : ∀ n, cm (mk w b) b (lo + n) = cm (mk w b) b lo + ((List.range n).filter fun i => fre w b (lo + i)).length
  | 0 => by simp
  | n + 1 => by
    rw [rng_succ (fun i => fre w b (lo + i)), ← Nat.add_assoc, cm_succ hb, cm_add hb lo n]
    omega
theorem cm_mono {w b : Nat} (hb : 0 < b) {x y : Nat} (h : x ≤ y) : cm (mk w b) b x ≤ cm (mk w b) b y := by
  have := cm_add (w := w) hb x (y - x)
  rw [show x + (y - x) = y by omega] at this
  omega
/-! the marked one with a number -/
theorem filt_sorted : ∀ {l : List Nat} {i v : Nat}, l.Pairwise (· < ·) → l[i]? = some v → (l.filter fun m => decide (m < v)).length = i
  | [], i, v, _, h => by simp at h
  | a :: l, 0, v, s, h => by
    simp at h
    subst h
    have := (List.pairwise_cons.mp s).1
    rw [List.filter_cons]
    simp only [Nat.lt_irrefl, decide_false, Bool.false_eq_true, if_false]
    rw [List.filter_eq_nil_iff.mpr fun x hx => by simpa using Nat.le_of_lt (this x hx)]
    rfl
  | a :: l, i + 1, v, s, h => by
    have h' : l[i]? = some v := by simpa using h
    have hm := List.mem_of_getElem? h'
    have := (List.pairwise_cons.mp s).1 v hm
    rw [List.filter_cons]
    simp only [this, decide_true, if_true, List.length_cons]
    rw [filt_sorted (List.pairwise_cons.mp s).2 h']
theorem mk_sorted (w b : Nat) : (mk w b).Pairwise (· < ·) := by
  unfold mk
  exact List.Pairwise.filter _ (List.pairwise_lt_range)
theorem mk_mem {w b r : Nat} : r ∈ mk w b ↔ r < b ∧ fre w b r = true := by
  unfold mk; rw [List.mem_filter, List.mem_range]
theorem nm_spec {w b n i v : Nat} (hb : 0 < b) (hm : 0 < (mk w b).length) (hi : i = n % (mk w b).length) (hv : (mk w b)[i]? = some v) :
    fre w b (n / (mk w b).length * b + v) = true ∧ cm (mk w b) b (n / (mk w b).length * b + v) = n := by
  obtain ⟨v1, v2⟩ := mk_mem.mp (List.mem_of_getElem? hv)
  have e1 : (n / (mk w b).length * b + v) % b = v := by rw [Nat.mul_comm, Nat.mul_add_mod, Nat.mod_eq_of_lt v1]
  have e2 : (n / (mk w b).length * b + v) / b = n / (mk w b).length := by
    rw [Nat.mul_comm, Nat.mul_add_div hb, Nat.div_eq_of_lt v1]; omega
  refine ⟨by rw [← fre_mod, e1]; exact v2, ?_⟩
  unfold cm
  rw [e1, e2, filt_sorted (mk_sorted w b) hv, hi, Nat.mul_comm]
  exact Nat.div_add_mod _ _
/-- the least from a length on -/
def LL (w b len x : Nat) : Prop := len ≤ x ∧ fre w b x = true ∧ ∀ y, len ≤ y → y < x → fre w b y = false
theorem LL.unique {w b len x y : Nat} (h : LL w b len x) (k : LL w b len y) : x = y := by
  obtain ⟨h1, h2, h3⟩ := h
  obtain ⟨k1, k2, k3⟩ := k
  rcases Nat.lt_trichotomy x y with z | z | z
  · have := k3 x h1 z; rw [h2] at this; cases this
  · exact z
  · have := h3 y k1 z; rw [k2] at this; cases this
theorem LL_of {w b len x : Nat} (hb : 0 < b) (h : fre w b x = true) (hc : cm (mk w b) b x = cm (mk w b) b len) : LL w b len x := by
  have s := cm_succ (w := w) hb x
  rw [if_pos h] at s
  refine ⟨?_, h, fun y h1 h2 => ?_⟩
  · rcases Nat.lt_or_ge x len with z | z
    · have := cm_mono (w := w) hb (show x + 1 ≤ len from z); omega
    · exact z
  · cases e : fre w b y with
    | false => rfl
    | true =>
      have s2 := cm_succ (w := w) hb y
      rw [if_pos e] at s2
      have := cm_mono (w := w) hb (show y + 1 ≤ x from h2)
      have := cm_mono (w := w) hb h1
      omega
theorem mk_nil {w b : Nat} (hb : 0 < b) : mk w b = [] ↔ ∀ L, fre w b L = false := by
  constructor
  · intro h L
    cases e : fre w b L with
    | false => rfl
    | true =>
      have : L % b ∈ mk w b := mk_mem.mpr ⟨Nat.mod_lt _ hb, by rw [fre_mod]; exact e⟩
      rw [h] at this; simp at this
  · intro h
    unfold mk
    rw [List.filter_eq_nil_iff]
    intro a _
    rw [h a]; simp
theorem some_in {w b lo : Nat} (hb : 0 < b) (h : mk w b ≠ []) : ∃ i, i < b ∧ fre w b (lo + i) = true := by
  have : ∃ L, fre w b L = true := by
    refine Classical.byContradiction fun z => h ((mk_nil hb).mpr fun L => ?_)
    cases e : fre w b L with
    | false => rfl
    | true => exact absurd ⟨L, e⟩ z
  obtain ⟨L, hL⟩ := this
  -- the one in the window with the remainder of L
  refine ⟨(L + (b - lo % b)) % b, Nat.mod_lt _ hb, ?_⟩
  rw [← fre_mod, ← hL, ← fre_mod w b L]
  congr 1
  have h1 := Nat.mod_lt lo hb
  rw [Nat.add_mod_mod]
  have h2 := Nat.div_add_mod lo b
  rw [show lo + (L + (b - lo % b)) = L + b * (lo / b + 1) by rw [Nat.mul_add]; omega]
  exact Nat.add_mul_mod_self_left _ _ _
theorem fre_none {w b : Nat} (hb : 0 < b) (hw : 0 < w) : mk w b = [] ↔ b < w := by
  rw [mk_nil hb]
  constructor
  · intro h
    have := h 1
    unfold fre at this
    rw [Nat.gcd_one_left, Nat.div_one] at this
    simpa using this
  · intro h L
    unfold fre
    have := Nat.div_le_self b (Nat.gcd L b)
    simp; omega
/-! the different cells of a wave -/
theorem len_sub : ∀ {l m : List Int}, l.Nodup → (∀ x ∈ l, x ∈ m) → l.length ≤ m.length
  | [], m, _, _ => Nat.zero_le _
  | a :: l, m, nd, s => by
    obtain ⟨n1, n2⟩ := List.nodup_cons.mp nd
    have ha := s a List.mem_cons_self
    have : l.length ≤ (m.erase a).length := len_sub n2 fun x hx => by
      have hne : x ≠ a := fun z => n1 (z ▸ hx)
      exact (List.mem_erase_of_ne hne).mpr (s x (List.mem_cons_of_mem _ hx))
    rw [List.length_erase_of_mem ha] at this
    have : 0 < m.length := List.length_pos_of_mem ha
    rw [List.length_cons]; omega
theorem gcd_facts {L b : Nat} (hb : 0 < b) : 0 < Nat.gcd L b ∧ 0 < b / Nat.gcd L b ∧ Nat.gcd L b * (b / Nat.gcd L b) = b ∧ Nat.gcd L b * (L / Nat.gcd L b) = L ∧ Nat.Coprime (L / Nat.gcd L b) (b / Nat.gcd L b) := by
  have h0 := Nat.gcd_pos_of_pos_right L hb
  have h1 := Nat.mul_div_cancel' (Nat.gcd_dvd_right L b)
  have h2 := Nat.mul_div_cancel' (Nat.gcd_dvd_left L b)
  refine ⟨h0, ?_, h1, h2, Nat.coprime_div_gcd_div_gcd h0⟩
  exact Nat.div_pos (Nat.le_of_dvd hb (Nat.gcd_dvd_right L b)) h0
theorem cell_ne {L b i j : Nat} (hb : 0 < b) (hij : i < j) (hj : j - i < b / Nat.gcd L b) : L * i % b ≠ L * j % b := by
  obtain ⟨g0, q0, e1, e2, co⟩ := gcd_facts (L := L) hb
  intro h
  have hd : b ∣ L * (j - i) := by
    rw [Nat.mul_sub]
    exact Nat.dvd_of_mod_eq_zero (Nat.sub_mod_eq_zero_of_mod_eq h.symm)
  have hd2 : Nat.gcd L b * (b / Nat.gcd L b) ∣ Nat.gcd L b * (L / Nat.gcd L b * (j - i)) := by
    rw [e1, ← Nat.mul_assoc, e2]; exact hd
  have hd3 := Nat.dvd_of_mul_dvd_mul_left g0 hd2
  have hd4 : b / Nat.gcd L b ∣ j - i := (Nat.Coprime.symm co).dvd_of_dvd_mul_left hd3
  have := Nat.le_of_dvd (by omega) hd4
  omega
theorem cell_eq {L b : Nat} (hb : 0 < b) : L * (b / Nat.gcd L b) % b = 0 := by
  obtain ⟨g0, q0, e1, e2, co⟩ := gcd_facts (L := L) hb
  have : L * (b / Nat.gcd L b) = b * (L / Nat.gcd L b) := by
    calc L * (b / Nat.gcd L b) = Nat.gcd L b * (L / Nat.gcd L b) * (b / Nat.gcd L b) := by rw [e2]
      _ = Nat.gcd L b * (b / Nat.gcd L b) * (L / Nat.gcd L b) := by rw [Nat.mul_assoc, Nat.mul_comm (L / _), ← Nat.mul_assoc]
      _ = _ := by rw [e1]
  rw [this]; exact Nat.mul_mod_right _ _
def cells (w b L : Nat) : List Int := (List.range w).map fun i => ((L * i % b : Nat) : Int)
theorem cells_len (w b L : Nat) : (cells w b L).length = w := by simp [cells]
theorem set_len {w b L : Nat} (hb : 0 < b) {out : List Int} (nd : out.Nodup) (hm : ∀ k, k ∈ out ↔ k ∈ cells w b L) : decide (out.length = w) = fre w b L := by
  unfold fre
  rw [decide_eq_decide]
  constructor
  · intro h
    refine Classical.byContradiction fun z => ?_
    obtain ⟨g0, q0, e1, e2, co⟩ := gcd_facts (L := L) hb
    have hlt : b / Nat.gcd L b < w := by omega
    -- without the cell at that place all cells are there still
    have : out.length ≤ ((cells w b L).eraseIdx (b / Nat.gcd L b)).length := len_sub nd fun x hx => by
      have hx := (hm x).mp hx
      unfold cells at hx
      obtain ⟨i, hi, rfl⟩ := List.mem_map.mp hx
      have hi := List.mem_range.mp hi
      rw [List.mem_eraseIdx_iff_getElem]
      by_cases hq : i = b / Nat.gcd L b
      · refine ⟨0, by rw [cells_len]; omega, by omega, ?_⟩
        simp only [cells, List.getElem_map, List.getElem_range, Nat.mul_zero, Nat.zero_mod]
        rw [hq, cell_eq hb]
      · refine ⟨i, by rw [cells_len]; omega, hq, ?_⟩
        simp [cells]
    rw [List.length_eraseIdx_of_lt (by rw [cells_len]; exact hlt), cells_len] at this
    omega
  · intro h
    have nd2 : (cells w b L).Nodup := by
      unfold cells
      rw [List.nodup_iff_pairwise_ne, List.pairwise_map]
      refine (List.pairwise_lt_range (n := w)).imp_of_mem fun {i j} hi hj hij => ?_
      have := List.mem_range.mp hj
      intro e
      exact cell_ne (L := L) hb hij (by omega) (by exact_mod_cast e)
    have h1 := len_sub nd fun x hx => (hm x).mp hx
    have h2 := len_sub nd2 fun x hx => (hm x).mpr hx
    rw [cells_len] at h1 h2
    omega
theorem deg_one {w b L : Nat} (hb : 0 < b) (hw : 0 < w) : decide ((w + b / Nat.gcd (Nat.gcd L b) b - 1) / (b / Nat.gcd (Nat.gcd L b) b) = 1) = fre w b L := by
  have e : Nat.gcd (Nat.gcd L b) b = Nat.gcd L b := Nat.gcd_eq_left (Nat.gcd_dvd_right L b)
  rw [e]
  unfold fre
  obtain ⟨g0, q0, _⟩ := gcd_facts (L := L) hb
  generalize b / Nat.gcd L b = p at q0 ⊢
  rw [decide_eq_decide]
  constructor
  · intro h
    have h1 := Nat.div_add_mod (w + p - 1) p
    have h2 := Nat.mod_lt (w + p - 1) q0
    rw [h] at h1
    omega
  · intro h
    rw [show w + p - 1 = (w - 1) + p by omega, Nat.add_div_right _ q0, Nat.div_eq_of_lt (by omega)]
end Ar

set_option linter.all false
/-! k47, at the newer code: lengths by greatest common divisors, counted with signs by the divisors -/
namespace Ar
theorem fre_mul {w b L : Nat} (hb : 0 < b) : fre w b L = decide (w * Nat.gcd L b ≤ b) := by
  unfold fre
  rw [decide_eq_decide]
  exact Nat.le_div_iff_mul_le (Nat.gcd_pos_of_pos_right L hb)
theorem fre_gcd (w b L : Nat) : fre w b (Nat.gcd L b) = fre w b L := by
  unfold fre; rw [Nat.gcd_eq_left (Nat.gcd_dvd_right L b)]
/-! the divisors -/
def sm (b s : Nat) : List Nat := ((List.range s).map (1 + ·)).filter fun d => decide (b % d = 0)
def lg (b s : Nat) : List Nat := ((sm b s).reverse.filter fun d => decide (d * d ≠ b)).map fun d => b / d
def dv (b s : Nat) : List Nat := sm b s ++ lg b s
theorem sm_mem {b s d : Nat} : d ∈ sm b s ↔ (1 ≤ d ∧ d ≤ s) ∧ d ∣ b := by
  unfold sm
  rw [List.mem_filter, List.mem_map]
  constructor
  · rintro ⟨⟨i, hi, rfl⟩, h⟩
    have := List.mem_range.mp hi
    exact ⟨⟨by omega, by omega⟩, Nat.dvd_of_mod_eq_zero (of_decide_eq_true h)⟩
  · rintro ⟨⟨h1, h2⟩, h3⟩
    exact ⟨⟨d - 1, List.mem_range.mpr (by omega), by omega⟩, decide_eq_true (Nat.mod_eq_zero_of_dvd h3)⟩
theorem sm_sorted (b s : Nat) : (sm b s).Pairwise (· < ·) := by
  unfold sm
  refine List.Pairwise.filter _ ?_
  rw [List.pairwise_map]
  exact (List.pairwise_lt_range (n := s)).imp fun h => by omega
theorem sm_len (b s : Nat) : (sm b s).length ≤ s := by
  unfold sm
  have := List.length_filter_le (fun d => decide (b % d = 0)) ((List.range s).map (1 + ·))
  simpa using this
theorem lg_len (b s : Nat) : (lg b s).length ≤ s := by
  unfold lg
  rw [List.length_map]
  have := List.length_filter_le (fun d => decide (d * d ≠ b)) (sm b s).reverse
  rw [List.length_reverse] at this
  exact Nat.le_trans this (sm_len b s)
theorem lg_mem {b s d : Nat} (hb : 0 < b) (h1 : s * s ≤ b) (h2 : b < (s + 1) * (s + 1)) : d ∈ lg b s ↔ s < d ∧ d ∣ b := by
  unfold lg
  rw [List.mem_map]
  constructor
  · rintro ⟨e, he, rfl⟩
    obtain ⟨he, hne⟩ := List.mem_filter.mp he
    have hne := of_decide_eq_true hne
    obtain ⟨⟨e1, e2⟩, e3⟩ := sm_mem.mp (List.mem_reverse.mp he)
    have hm := Nat.mul_div_cancel' e3
    refine ⟨?_, Nat.div_dvd_of_dvd e3⟩
    refine Nat.lt_of_not_le fun z => ?_
    have k1 : e * (b / e) ≤ s * (b / e) := Nat.mul_le_mul_right _ e2
    have k2 : s * (b / e) ≤ s * s := Nat.mul_le_mul_left _ z
    have hs : 0 < s := by omega
    have k3 : s * (b / e) = s * s := by omega
    have k4 : b / e = s := Nat.eq_of_mul_eq_mul_left hs k3
    have k5 : e * s = s * s := by
      have : e * s = b := by rw [← k4]; exact hm
      omega
    have k6 : e = s := Nat.eq_of_mul_eq_mul_right hs k5
    apply hne
    rw [k4] at hm; rw [k6] at hm ⊢; exact hm
  · rintro ⟨d1, d2⟩
    have hm := Nat.mul_div_cancel' d2
    have d0 : 0 < d := by omega
    have q0 : 0 < b / d := Nat.div_pos (Nat.le_of_dvd hb d2) d0
    have q1 : b / d ≤ s := by
      refine Nat.le_of_not_lt fun z => ?_
      have k1 : (s + 1) * (s + 1) ≤ d * (b / d) := Nat.mul_le_mul d1 z
      omega
    refine ⟨b / d, List.mem_filter.mpr ⟨List.mem_reverse.mpr (sm_mem.mpr ⟨⟨q0, q1⟩, Nat.div_dvd_of_dvd d2⟩), decide_eq_true fun z => ?_⟩, ?_⟩
    · have k1 : d * (b / d) = b / d * (b / d) := by rw [hm, z]
      have := Nat.eq_of_mul_eq_mul_right q0 k1
      omega
    · exact Nat.div_div_self d2 (by omega)
theorem lg_sorted {b s : Nat} (hb : 0 < b) : (lg b s).Pairwise (· < ·) := by
  unfold lg
  rw [List.pairwise_map]
  refine List.Pairwise.filter _ ?_
  rw [List.pairwise_reverse]
  refine (sm_sorted b s).imp_of_mem fun {x y} hx hy h => ?_
  obtain ⟨⟨x1, x2⟩, x3⟩ := sm_mem.mp hx
  obtain ⟨⟨y1, y2⟩, y3⟩ := sm_mem.mp hy
  have m1 := Nat.mul_div_cancel' x3
  have m2 := Nat.mul_div_cancel' y3
  refine Nat.lt_of_not_le fun z => ?_
  have p1 : 0 < b / x := Nat.div_pos (Nat.le_of_dvd hb x3) x1
  have k1 : x * (b / x) < y * (b / x) := Nat.mul_lt_mul_of_pos_right h p1
  have k2 : y * (b / x) ≤ y * (b / y) := Nat.mul_le_mul_left _ z
  omega
theorem dv_mem {b s d : Nat} (hb : 0 < b) (h1 : s * s ≤ b) (h2 : b < (s + 1) * (s + 1)) : d ∈ dv b s ↔ d ∣ b := by
  unfold dv
  rw [List.mem_append, sm_mem, lg_mem hb h1 h2]
  constructor
  · rintro (⟨_, h⟩ | ⟨_, h⟩) <;> exact h
  · intro h
    have := Nat.pos_of_dvd_of_pos h hb
    rcases Nat.lt_or_ge s d with z | z
    · exact .inr ⟨z, h⟩
    · exact .inl ⟨⟨this, z⟩, h⟩
theorem dv_sorted {b s : Nat} (hb : 0 < b) (h1 : s * s ≤ b) (h2 : b < (s + 1) * (s + 1)) : (dv b s).Pairwise (· < ·) := by
  unfold dv
  rw [List.pairwise_append]
  refine ⟨sm_sorted b s, lg_sorted hb, fun x hx y hy => ?_⟩
  have := (sm_mem.mp hx).1.2
  have := ((lg_mem hb h1 h2).mp hy).1
  omega
theorem dv_len (b s : Nat) : (dv b s).length ≤ 2 * s := by
  unfold dv
  rw [List.length_append]
  have := sm_len b s
  have := lg_len b s
  omega
/-! counted with signs -/
abbrev FD := List (Nat × Int)
theorem sumI : ∀ (l m : List Int), (l ++ m).sum = l.sum + m.sum
  | [], m => by simp
  | a :: l, m => by rw [List.cons_append, List.sum_cons, List.sum_cons, sumI l m]; omega
def sg (fd : FD) (x : Nat) : Int := ((fd.filter fun e => decide (x % e.1 = 0)).map fun e => e.2).sum
def tot (fd : FD) : Nat := (fd.map fun e => e.2.natAbs).sum
theorem sg_cons (e : Nat × Int) (fd : FD) (x : Nat) : sg (e :: fd) x = (if x % e.1 = 0 then e.2 else 0) + sg fd x := by
  unfold sg
  rw [List.filter_cons]
  by_cases h : x % e.1 = 0
  · rw [if_pos (decide_eq_true h), if_pos h, List.map_cons, List.sum_cons]
  · rw [if_neg (by simpa using h), if_neg h]; omega
theorem sg_app (fd : FD) (e : Nat × Int) (x : Nat) : sg (fd ++ [e]) x = sg fd x + (if x % e.1 = 0 then e.2 else 0) := by
  induction fd with
  | nil => rw [List.nil_append, sg_cons]; simp [sg]
  | cons a fd ih => rw [List.cons_append, sg_cons, sg_cons, ih]; omega
theorem tot_app (fd : FD) (e : Nat × Int) : tot (fd ++ [e]) = tot fd + e.2.natAbs := by
  induction fd with
  | nil => simp [tot]
  | cons a fd ih => unfold tot at ih ⊢; rw [List.cons_append, List.map_cons, List.sum_cons, List.map_cons, List.sum_cons, ih]; omega
theorem sg_le (fd : FD) (x : Nat) : (sg fd x).natAbs ≤ tot fd := by
  induction fd with
  | nil => simp [sg, tot]
  | cons a fd ih =>
    rw [sg_cons]
    unfold tot at ih ⊢
    rw [List.map_cons, List.sum_cons]
    split <;> omega
theorem tot_mem {fd : FD} {e : Nat × Int} (h : e ∈ fd) : e.2.natAbs ≤ tot fd := by
  induction fd with
  | nil => simp at h
  | cons a fd ih =>
    unfold tot at ih ⊢
    rw [List.map_cons, List.sum_cons]
    rcases List.mem_cons.mp h with z | z
    · rw [z]; omega
    · have := ih z; omega
def want (w b x : Nat) : Int := if fre w b x = true then 1 else 0
theorem want_ge (w b x : Nat) : 0 ≤ want w b x ∧ want w b x ≤ 1 := by unfold want; split <;> omega
/-- what stands when the first divisors are done -/
structure SD (w b : Nat) (l : List Nat) (i : Nat) (fd : FD) : Prop where
  mem : ∀ e ∈ fd, e.1 ∈ l.take i
  val : ∀ d ∈ l.take i, sg fd d = want w b d
  len : fd.length ≤ i
  tot : tot fd + 1 ≤ 2 ^ i
theorem SD.zero (w b : Nat) (l : List Nat) : SD w b l 0 [] := ⟨by simp, by simp, by simp, by simp [Ar.tot]⟩
theorem take_succ_mem {l : List Nat} {i d x : Nat} (h : l[i]? = some d) : x ∈ l.take (i + 1) ↔ x ∈ l.take i ∨ x = d := by
  rw [List.take_add_one, h]; simp
theorem take_lt {l : List Nat} {i d x : Nat} (s : l.Pairwise (· < ·)) (h : l[i]? = some d) (hx : x ∈ l.take i) : x < d := by
  obtain ⟨j, hj⟩ := List.getElem?_of_mem hx
  rw [List.getElem?_take] at hj
  split at hj
  · rename_i hji
    obtain ⟨a1, a2⟩ := List.getElem?_eq_some_iff.mp hj
    obtain ⟨b1, b2⟩ := List.getElem?_eq_some_iff.mp h
    rw [← a2, ← b2]
    exact List.pairwise_iff_getElem.mp s j i a1 b1 hji
  · cases hj
theorem SD.keep {w b i d : Nat} {l : List Nat} {fd : FD} (h : SD w b l i fd) (hd : l[i]? = some d) (e : sg fd d = want w b d) : SD w b l (i + 1) fd := by
  refine ⟨fun e he => (take_succ_mem hd).mpr (.inl (h.mem e he)), fun x hx => ?_, by have := h.len; omega, ?_⟩
  · rcases (take_succ_mem hd).mp hx with z | z
    · exact h.val x z
    · rw [z]; exact e
  · have := h.tot
    rw [Nat.pow_succ]; omega
theorem SD.put {w b i d : Nat} {l : List Nat} {fd : FD} (s : l.Pairwise (· < ·)) (h0 : ∀ x ∈ l, 0 < x) (h : SD w b l i fd) (hd : l[i]? = some d) : SD w b l (i + 1) (fd ++ [(d, want w b d - sg fd d)]) := by
  have dm := List.mem_of_getElem? hd
  refine ⟨fun e he => ?_, fun x hx => ?_, by have := h.len; simp; omega, ?_⟩
  · rcases List.mem_append.mp he with z | z
    · exact (take_succ_mem hd).mpr (.inl (h.mem e z))
    · have : e = (d, want w b d - sg fd d) := by simpa using z
      rw [this]
      exact (take_succ_mem hd).mpr (.inr rfl)
  · rw [sg_app]
    rcases (take_succ_mem hd).mp hx with z | z
    · have lt := take_lt s hd z
      have p := h0 x (List.mem_of_mem_take z)
      rw [if_neg (show ¬ x % d = 0 by rw [Nat.mod_eq_of_lt lt]; omega), h.val x z]; omega
    · subst z
      rw [if_pos (Nat.mod_self x)]; omega
  · rw [tot_app]
    have := h.tot
    have k := sg_le fd d
    have k2 := want_ge w b d
    rw [Nat.pow_succ]
    show Ar.tot fd + (want w b d - sg fd d).natAbs + 1 ≤ _
    omega
/-- a signed list that counts the free ones -/
structure SG (w b : Nat) (fd : FD) : Prop where
  dvd : ∀ e ∈ fd, 0 < e.1 ∧ e.1 ∣ b
  val : ∀ x, sg fd x = want w b x
  len : fd.length ≤ 200
  big : ∀ e ∈ fd, e.2.natAbs ≤ 2 ^ 200
theorem sg_gcd {b x : Nat} {fd : FD} (h : ∀ e ∈ fd, e.1 ∣ b) : sg fd (Nat.gcd x b) = sg fd x := by
  unfold sg
  congr 2
  refine List.filter_congr fun e he => ?_
  rw [decide_eq_decide]
  constructor
  · intro z; exact Nat.mod_eq_zero_of_dvd (Nat.dvd_trans (Nat.dvd_of_mod_eq_zero z) (Nat.gcd_dvd_left x b))
  · intro z; exact Nat.mod_eq_zero_of_dvd (Nat.dvd_gcd (Nat.dvd_of_mod_eq_zero z) (h e he))
theorem SG.of {w b : Nat} {l : List Nat} {fd : FD} (hb : 0 < b) (hl : ∀ d, d ∈ l ↔ d ∣ b) (hn : l.length ≤ 200) (h : SD w b l l.length fd) : SG w b fd := by
  have m : ∀ e ∈ fd, e.1 ∣ b := fun e he => (hl e.1).mp (List.mem_of_mem_take (h.mem e he))
  refine ⟨fun e he => ⟨Nat.pos_of_dvd_of_pos (m e he) hb, m e he⟩, fun x => ?_, Nat.le_trans h.len hn, fun e he => ?_⟩
  · rw [← sg_gcd m, h.val _ (by rw [List.take_length]; exact (hl _).mpr (Nat.gcd_dvd_right x b))]
    unfold want
    rw [fre_gcd]
  · have := tot_mem he
    have := h.tot
    have : 2 ^ l.length ≤ 2 ^ 200 := Nat.pow_le_pow_right (by decide) hn
    omega
def cnt (fd : FD) (hi ah : Nat) : Int := (fd.map fun e => e.2 * (((hi / e.1 : Nat) : Int) - ((ah / e.1 : Nat) : Int))).sum
theorem cnt_self (fd : FD) (ah : Nat) : cnt fd ah ah = 0 := by
  induction fd with
  | nil => rfl
  | cons a fd ih => unfold cnt at ih ⊢; rw [List.map_cons, List.sum_cons, ih]; simp
theorem cnt_succ {fd : FD} (h0 : ∀ e ∈ fd, 0 < e.1) (hi ah : Nat) : cnt fd (hi + 1) ah = cnt fd hi ah + sg fd (hi + 1) := by
  induction fd with
  | nil => rfl
  | cons a fd ih =>
    rw [sg_cons]
    have ih := ih fun e he => h0 e (List.mem_cons_of_mem _ he)
    unfold cnt at ih ⊢
    rw [List.map_cons, List.sum_cons, List.map_cons, List.sum_cons, ih]
    have p := h0 a List.mem_cons_self
    have : ((hi + 1) / a.1 : Nat) = hi / a.1 + if (hi + 1) % a.1 = 0 then 1 else 0 := by
      rw [Nat.succ_div]
      simp only [Nat.dvd_iff_mod_eq_zero]
    rw [this]
    split
    · generalize ((List.map (fun e : Nat × Int => e.2 * (((hi / e.1 : Nat) : Int) - ((ah / e.1 : Nat) : Int))) fd).sum) = S
      rw [show (((hi / a.1 + 1 : Nat) : Int)) - ((ah / a.1 : Nat) : Int) = (((hi / a.1 : Nat) : Int) - ((ah / a.1 : Nat) : Int)) + 1 by omega, Int.mul_add, Int.mul_one]
      generalize a.2 * (((hi / a.1 : Nat) : Int) - ((ah / a.1 : Nat) : Int)) = T
      omega
    · simp only [Nat.add_zero]; omega
theorem cnt_cm {w b : Nat} {fd : FD} (hb : 0 < b) (h : SG w b fd) (ah : Nat) : ∀ n, cnt fd (ah + n) ah = (cm (mk w b) b (ah + n + 1) : Int) - (cm (mk w b) b (ah + 1) : Int)
  | 0 => by rw [Nat.add_zero, cnt_self]; omega
  | n + 1 => by
    rw [← Nat.add_assoc, cnt_succ fun e he => (h.dvd e he).1, cnt_cm hb h ah n, h.val, cm_succ hb (ah + n + 1)]
    unfold want
    split <;> omega
end Ar

set_option linter.all false
set_option maxRecDepth 100000
namespace Law
open PySem L2 DL
structure Cls where
  InvalidNumber : Addr
/-! check_wave: 0 wave -/
@[reducible] def rd_check_wave (A : Cls) (e : DX) : DTS := (dIfS (dOr (dTest (dOp rLtD (dVar 0) (dC (.int 1)))) (dTest (dOp rGtD (dVar 0) (dC (.int 32))))) (dRaise A.InvalidNumber (dVar 0) e) dNext)
/-! check_banks: 0 banks -/
@[reducible] def rd_check_banks (A : Cls) (e : DX) : DTS := (dIfS (dOr (dTest (dOp rLtD (dVar 0) (dC (.int 1)))) (dTest (dOp rGtD (dVar 0) (dC (.int 4096))))) (dRaise A.InvalidNumber (dVar 0) e) dNext)
/-! check_length: 0 length -/
@[reducible] def rd_check_length (A : Cls) (e : DX) : DTS := (dIfS (dTest (dOp rLtD (dVar 0) (dC (.int 1)))) (dRaise A.InvalidNumber (dVar 0) e) dNext)
/-! divisors: 0 number 1 small 2 divisor -/
@[reducible] def rd_divisors (A : Cls) (e : DX) : DTS := (dSeq (dAsg (dLc (diRw2 (dCons (dC (.int 1)) (dCons (dOp rAddD (dCB rIsqD (dCons (dVar 0) dNil)) (dC (.int 1))) dNil))) (dgName 2) (dTest (dOp rEqG (dOp rModD (dVar 0) (dVar 2)) (dC (.int 0)))) (dVar 2) [2]) (dgName 1))
    (dRet (dOp rAddD (dVar 1) (dLc (diSq (dRevL (dVar 1))) (dgName 2) (dTest (dOp rNeG (dOp rMulD (dVar 2) (dVar 2)) (dVar 0))) (dOp rDivD (dVar 0) (dVar 2)) [2]))))
/-! is_free_length: 0 wave 1 banks 2 length -/
@[reducible] def rd_is_free_length (A : Cls) (e : DX) : DTS := (dRet (dOp rLeX (dOp rMulD (dVar 0) (dCB rGcdD (dCons (dVar 2) (dCons (dVar 1) dNil)))) (dVar 1)))
/-! signed_divisors: 0 wave 1 banks 2 found 3 divisor 4 before 5 wanted 6 earlier 7 times -/
@[reducible] def rd_signed_divisors (A : Cls) (c_divisors : DSp) (c_is_free_length : DSp) (e : DX) : DTS := (dSeq (dAsg (dLstM dNil) (dgName 2))
    (dSeq (dFor (diSq (dCall c_divisors e [] (dCons (dVar 1) dNil))) (dgName 3) (dSeq (dAsg (dCB rSumD (dCons (dLc (diSq (dVar 2)) (dgTup 2 (dgCons (dgName 6) (dgCons (dgName 7) dgNil))) (dTest (dOp rEqG (dOp rModD (dVar 3) (dVar 6)) (dC (.int 0)))) (dVar 7) [6, 7]) dNil)) (dgName 4))
    (dSeq (dAsg (dIf (dTru (dCall c_is_free_length e [] (dCons (dVar 0) (dCons (dVar 1) (dCons (dVar 3) dNil))))) (dC (.int 1)) (dC (.int 0))) (dgName 5))
    (dIfS (dTest (dOp rNeG (dVar 4) (dVar 5))) (dDrop (dAppend (dVar 2) (dTup (dCons (dVar 3) (dCons (dOp rSubD (dVar 5) (dVar 4)) dNil))))) dNext))))
    (dRet (dVarF 2))))
/-! least_length: 0 wave 1 banks 2 length 3 found -/
@[reducible] def rd_least_length (A : Cls) (c_check_banks : DSp) (c_check_length : DSp) (c_check_wave : DSp) (c_is_free_length : DSp) (e : DX) : DTS := (dSeq (dDrop (dCall c_check_wave e [] (dCons (dVar 0) dNil)))
    (dSeq (dDrop (dCall c_check_banks e [] (dCons (dVar 1) dNil)))
    (dSeq (dDrop (dCall c_check_length e [] (dCons (dVar 2) dNil)))
    (dSeq (dIfS (dTest (dOp rGtD (dVar 0) (dVar 1))) (dRet (dC .non)) dNext)
    (dSeq (dAsg (dVar 2) (dgName 3))
    (dSeq (dWhile (dNot (dTru (dCall c_is_free_length e [] (dCons (dVar 0) (dCons (dVar 1) (dCons (dVar 3) dNil)))))) (dAug 3 (dC (.int 1)) (fun i j => i + j)))
    (dRet (dVar 3))))))))
/-! count_lengths: 0 wave 1 banks 2 low 3 high 4 ahead 5 divisor 6 times -/
@[reducible] def rd_count_lengths (A : Cls) (c_check_banks : DSp) (c_check_length : DSp) (c_check_wave : DSp) (c_signed_divisors : DSp) (e : DX) : DTS := (dSeq (dDrop (dCall c_check_wave e [] (dCons (dVar 0) dNil)))
    (dSeq (dDrop (dCall c_check_banks e [] (dCons (dVar 1) dNil)))
    (dSeq (dDrop (dCall c_check_length e [] (dCons (dVar 2) dNil)))
    (dSeq (dIfS (dTest (dOp rLtD (dVar 3) (dVar 2))) (dRaise A.InvalidNumber (dVar 3) e) dNext)
    (dSeq (dAsg (dOp rSubD (dVar 2) (dC (.int 1))) (dgName 4))
    (dRet (dCB rSumD (dCons (dLc (diSq (dCall c_signed_divisors e [] (dCons (dVar 0) (dCons (dVar 1) dNil)))) (dgTup 2 (dgCons (dgName 5) (dgCons (dgName 6) dgNil))) dYes (dOp rMulD (dVar 6) (dOp rSubD (dOp rDivD (dVar 3) (dVar 5)) (dOp rDivD (dVar 4) (dVar 5)))) [5, 6]) dNil))))))))
/-! _law_pool: 0 script 1 at 2 taken -/
@[reducible] def rd__law_pool (A : Cls) (e : DX) : DTS := (dSeq (dAsg (dC (.int 0)) (dgName 2))
    (dSeq (dIfS (dTest (dOp rLtD (dVar 1) (dCB rLenD (dCons (dVar 0) dNil)))) (dAsg (dOp rIxG (dVar 0) (dVar 1)) (dgName 2)) dNext)
    (dRet (dLstM (dCons (dCB rMax2D (dCons (dC (.int 0)) (dCons (dOp rSubD (dCB rAbsD (dCons (dVar 2) dNil)) (dOp rPowD (dC (.int 10)) (dC (.int 18)))) dNil))) (dCons (dOp rAddD (dOp rModD (dVar 2) (dC (.int 2305843009213693951))) (dOp rMulD (dC (.int 3367900313)) (dOp rAddD (dVar 1) (dC (.int 1))))) (dCons (dC (.int 0)) dNil)))))))
/-! _law_draw: 0 pool 1 many 2 drawn 3 mixed -/
@[reducible] def rd__law_draw (A : Cls) (e : DX) : DTS := (dSeq (dIfS (dTest (dOp rGtD (dOp rIxG (dVar 0) (dC (.int 0))) (dC (.int 0)))) (dSeq (dAsg (dOp rModD (dOp rIxG (dVar 0) (dC (.int 0))) (dVar 1)) (dgName 2))
    (dSeq (dAsg (dOp rDivD (dOp rIxG (dVar 0) (dC (.int 0))) (dVar 1)) (dgItem (dVar 0) (dC (.int 0))))
    (dRet (dVar 2)))) dNext)
    (dSeq (dAsg (dOp rAddD (dOp rIxG (dVar 0) (dC (.int 2))) (dC (.int 1))) (dgItem (dVar 0) (dC (.int 2))))
    (dSeq (dAsg (dOp rModD (dOp rPowD (dOp rAddD (dOp rIxG (dVar 0) (dC (.int 1))) (dOp rMulD (dC (.int 15488257)) (dOp rIxG (dVar 0) (dC (.int 2))))) (dC (.int 3))) (dC (.int 162259276829213363391578010288127))) (dgName 3))
    (dSeq (dAsg (dOp rModD (dOp rPowD (dOp rAddD (dVar 3) (dOp rMulD (dC (.int 32453651)) (dOp rIxG (dVar 0) (dC (.int 2))))) (dC (.int 5))) (dC (.int 170141183460469231731687303715884105727))) (dgName 3))
    (dRet (dOp rModD (dOp rDivD (dVar 3) (dC (.int 1048576))) (dVar 1)))))))
/-! _law_span: 0 pool -/
@[reducible] def rd__law_span (A : Cls) (c__law_draw : DSp) (e : DX) : DTS := (dRet (dOp rIxG (dLst (dCons (dC (.int 1)) (dCons (dC (.int 2)) (dCons (dC (.int 3)) (dCons (dC (.int 4)) (dCons (dC (.int 5)) (dCons (dC (.int 8)) (dCons (dC (.int 16)) (dCons (dC (.int 31)) (dCons (dC (.int 32)) (dCons (dOp rAddD (dC (.int 1)) (dCall c__law_draw e [] (dCons (dVar 0) (dCons (dC (.int 32)) dNil)))) dNil))))))))))) (dCall c__law_draw e [] (dCons (dVar 0) (dCons (dC (.int 10)) dNil)))))
/-! _law_is_free: 0 span 1 many 2 long 3 lane -/
@[reducible] def rd__law_is_free (A : Cls) (e : DX) : DTS := (dRet (dOp rEqG (dLenSet (dLc (diRw1 (dCons (dVar 0) dNil)) (dgName 3) dYes (dOp rModD (dOp rMulD (dVar 2) (dVar 3)) (dVar 1)) [3])) (dVar 0)))
/-! _law_right: 0 pool 1 span 2 some 3 many 4 least 5 near 6 due 7 told 8 found 9 cut 10 last 11 whole 12 long -/
@[reducible] def rd__law_right (A : Cls) (c__law_draw : DSp) (c__law_is_free : DSp) (c__law_span : DSp) (c_count_lengths : DSp) (c_least_length : DSp) (e : DX) : DTS := (dSeq (dAsg (dCall c__law_span e [] (dCons (dVar 0) dNil)) (dgName 1))
    (dSeq (dAsg (dLst (dCons (dOp rAddD (dC (.int 1)) (dCall c__law_draw e [] (dCons (dVar 0) (dCons (dC (.int 8)) dNil)))) (dCons (dC (.int 32)) (dCons (dC (.int 64)) (dCons (dOp rAddD (dC (.int 1)) (dCall c__law_draw e [] (dCons (dVar 0) (dCons (dC (.int 200)) dNil)))) (dCons (dC (.int 4096)) (dCons (dOp rAddD (dC (.int 201)) (dCall c__law_draw e [] (dCons (dVar 0) (dCons (dC (.int 3896)) dNil)))) dNil))))))) (dgName 2))
    (dSeq (dAsg (dOp rIxG (dVar 2) (dCall c__law_draw e [] (dCons (dVar 0) (dCons (dC (.int 6)) dNil)))) (dgName 3))
    (dSeq (dAsg (dOp rAddD (dC (.int 1)) (dCall c__law_draw e [] (dCons (dVar 0) (dCons (dOp rIxG (dLst (dCons (dC (.int 9)) (dCons (dC (.int 300)) (dCons (dOp rPowD (dC (.int 10)) (dC (.int 29))) dNil)))) (dCall c__law_draw e [] (dCons (dVar 0) (dCons (dC (.int 3)) dNil)))) dNil)))) (dgName 4))
    (dSeq (dIfS (dTest (dOp rLtD (dVar 3) (dC (.int 300)))) (dSeq (dAsg (dLc (diRw2 (dCons (dVar 4) (dCons (dOp rAddD (dVar 4) (dOp rMulD (dC (.int 3)) (dVar 3))) dNil))) (dgName 12) (dTru (dCall c__law_is_free eN [] (dCons (dVar 1) (dCons (dVar 3) (dCons (dVar 12) dNil))))) (dVar 12) [12]) (dgName 5))
    (dSeq (dAsg (dIf (dTest (dOp rNeG (dVar 5) (dLst dNil))) (dOp rIxG (dVar 5) (dC (.int 0))) (dC .non)) (dgName 6))
    (dSeq (dIfS (dTest (dOp rNeG (dLst (dCons (dCall c_least_length e [] (dCons (dVar 1) (dCons (dVar 3) (dCons (dVar 4) dNil)))) (dCons (dCallX c_least_length e 0 3 [2, 1, 0] [] dNil (dCons (dVar 4) (dCons (dVar 3) (dCons (dVar 1) dNil)))) dNil))) (dLst (dCons (dVar 6) (dCons (dVar 6) dNil))))) (dRet (dC (.bl false))) dNext)
    (dSeq (dAsg (dLstM (dCons (dCall c_count_lengths e [] (dCons (dVar 1) (dCons (dVar 3) (dCons (dVar 4) (dCons (dOp rSubD (dOp rAddD (dVar 4) (dOp rMulD (dC (.int 3)) (dVar 3))) (dC (.int 1))) dNil))))) dNil)) (dgName 7))
    (dSeq (dDrop (dAppend (dVar 7) (dCallX c_count_lengths e 0 4 [3, 2, 1, 0] [] dNil (dCons (dOp rSubD (dOp rAddD (dVar 4) (dOp rMulD (dC (.int 3)) (dVar 3))) (dC (.int 1))) (dCons (dVar 4) (dCons (dVar 3) (dCons (dVar 1) dNil)))))))
    (dIfS (dOr (dTest (dOp rNeG (dVar 7) (dOp rRepD (dLst (dCons (dCB rLenD (dCons (dVar 5) dNil)) dNil)) (dC (.int 2))))) (dAnd (dTest (dOp rNeG (dVar 5) (dLst dNil))) (dTest (dOp rNeG (dCall c_count_lengths e [] (dCons (dVar 1) (dCons (dVar 3) (dCons (dVar 4) (dCons (dOp rIxG (dVar 5) (dC (.int 0))) dNil))))) (dC (.int 1)))))) (dRet (dC (.bl false))) dNext)))))) dNext)
    (dSeq (dIfS (dTest (dOp rGtD (dVar 3) (dC (.int 200)))) (dSeq (dAsg (dLc (diRw2 (dCons (dVar 4) (dCons (dOp rAddD (dVar 4) (dC (.int 64))) dNil))) (dgName 12) (dTru (dCall c__law_is_free eN [] (dCons (dVar 1) (dCons (dVar 3) (dCons (dVar 12) dNil))))) (dVar 12) [12]) (dgName 5))
    (dSeq (dIfS (dAnd (dTest (dOp rNeG (dVar 5) (dLst dNil))) (dTest (dOp rNeG (dCall c_least_length e [] (dCons (dVar 1) (dCons (dVar 3) (dCons (dVar 4) dNil)))) (dOp rIxG (dVar 5) (dC (.int 0)))))) (dRet (dC (.bl false))) dNext)
    (dIfS (dTest (dOp rNeG (dCall c_count_lengths e [] (dCons (dVar 1) (dCons (dVar 3) (dCons (dVar 4) (dCons (dOp rAddD (dVar 4) (dC (.int 63))) dNil))))) (dCB rLenD (dCons (dVar 5) dNil)))) (dRet (dC (.bl false))) dNext))) dNext)
    (dSeq (dAsg (dCall c_least_length e [] (dCons (dVar 1) (dCons (dVar 3) (dCons (dVar 4) dNil)))) (dgName 8))
    (dSeq (dIfS (dOr (dTest (dOp rNeG (dOp rIsNG (dVar 8) (dC .non)) (dOp rGtD (dVar 1) (dVar 3)))) (dAnd (dTest (dOp rNotNG (dVar 8) (dC .non))) (dNot (dTru (dCall c__law_is_free e [] (dCons (dVar 1) (dCons (dVar 3) (dCons (dVar 8) dNil)))))))) (dRet (dC (.bl false))) dNext)
    (dSeq (dPar 9 10 (dCons (dOp rAddD (dVar 4) (dCall c__law_draw e [] (dCons (dVar 0) (dCons (dOp rPowD (dC (.int 10)) (dC (.int 20))) dNil)))) (dCons (dOp rAddD (dOp rAddD (dVar 4) (dOp rPowD (dC (.int 10)) (dC (.int 20)))) (dCall c__law_draw e [] (dCons (dVar 0) (dCons (dOp rPowD (dC (.int 10)) (dC (.int 20))) dNil)))) dNil)))
    (dSeq (dAsg (dCall c_count_lengths e [] (dCons (dVar 1) (dCons (dVar 3) (dCons (dVar 4) (dCons (dVar 10) dNil))))) (dgName 11))
    (dRet (dOp rEqG (dOp rAddD (dCall c_count_lengths e [] (dCons (dVar 1) (dCons (dVar 3) (dCons (dVar 4) (dCons (dVar 9) dNil))))) (dCall c_count_lengths e [] (dCons (dVar 1) (dCons (dVar 3) (dCons (dOp rAddD (dVar 9) (dC (.int 1))) (dCons (dVar 10) dNil)))))) (dVar 11)))))))))))))
/-! law: 0 script 1 at 2 pool 3 turn -/
@[reducible] def rd_law (A : Cls) (c__law_pool : DSp) (c__law_right : DSp) (c_count_lengths : DSp) (c_least_length : DSp) (e : DX) : DTS := (dSeq (dFor (diRw1 (dCons (dCB rMax2D (dCons (dC (.int 1)) (dCons (dCB rMin2D (dCons (dC (.int 6)) (dCons (dCB rLenD (dCons (dVar 0) dNil)) dNil))) dNil))) dNil)) (dgName 1) (dSeq (dAsg (dCall c__law_pool e [] (dCons (dVar 0) (dCons (dVar 1) dNil))) (dgName 2))
    (dFor (diRw1 (dCons (dC (.int 3)) dNil)) (dgName 3) (dIfS (dNot (dTru (dCall c__law_right e [] (dCons (dVar 2) dNil)))) (dRet (dC (.bl false))) dNext))))
    (dRet (dOp rEqG (dLst (dCons (dCall c_least_length e [] (dCons (dC (.int 4)) (dCons (dC (.int 8)) (dCons (dC (.int 8)) dNil)))) (dCons (dCall c_count_lengths e [] (dCons (dC (.int 4)) (dCons (dC (.int 8)) (dCons (dC (.int 8)) (dCons (dC (.int 15)) dNil))))) (dCons (dCall c_least_length e [] (dCons (dC (.int 9)) (dCons (dC (.int 8)) (dCons (dC (.int 1)) dNil)))) dNil)))) (dLst (dCons (dC (.int 9)) (dCons (dC (.int 6)) (dCons (dC .non) dNil)))))))
end Law

set_option linter.all false
set_option maxRecDepth 100000
namespace Law
open PySem
theorem isq_spec : ∀ b, b < 4097 → Float64.isqrt b * Float64.isqrt b ≤ b ∧ b < (Float64.isqrt b + 1) * (Float64.isqrt b + 1) := by decide +kernel
end Law

set_option linter.all false
set_option maxRecDepth 100000
set_option maxHeartbeats 1000000
namespace Law
open PySem L2 DL Ar
def c_check_wave (A : Cls) : DSp := fun ds μ q e => ∃ w, ds = [.int w] ∧ if 1 ≤ w ∧ w ≤ 32 then q .non μ else e A.InvalidNumber (.int w) μ
theorem len_check_wave {A : Cls} : ∀ ds μ q e, c_check_wave A ds μ q e → ds.length = 1 := fun ds μ q e ⟨_, h, _⟩ => by rw [h]; rfl
theorem ok_check_wave {A : Cls} : ∀ ds μ q e, c_check_wave A ds μ q e → rd_check_wave A e (endsD q) (startD 1 ds) μ := by
  rintro ds μ q e ⟨w, rfl, h⟩
  refine iteD (fun z => ?_) (fun z => ?_)
  · rw [if_neg (by omega)] at h; exact h
  refine iteD (fun z2 => ?_) (fun z2 => ?_)
  · rw [if_neg (by omega)] at h; exact h
  rw [if_pos (by omega)] at h
  exact fin h rfl
def c_check_banks (A : Cls) : DSp := fun ds μ q e => ∃ w, ds = [.int w] ∧ if 1 ≤ w ∧ w ≤ 4096 then q .non μ else e A.InvalidNumber (.int w) μ
theorem len_check_banks {A : Cls} : ∀ ds μ q e, c_check_banks A ds μ q e → ds.length = 1 := fun ds μ q e ⟨_, h, _⟩ => by rw [h]; rfl
theorem ok_check_banks {A : Cls} : ∀ ds μ q e, c_check_banks A ds μ q e → rd_check_banks A e (endsD q) (startD 1 ds) μ := by
  rintro ds μ q e ⟨w, rfl, h⟩
  refine iteD (fun z => ?_) (fun z => ?_)
  · rw [if_neg (by omega)] at h; exact h
  refine iteD (fun z2 => ?_) (fun z2 => ?_)
  · rw [if_neg (by omega)] at h; exact h
  rw [if_pos (by omega)] at h
  exact fin h rfl
def c_check_length (A : Cls) : DSp := fun ds μ q e => ∃ w, ds = [.int w] ∧ if 1 ≤ w then q .non μ else e A.InvalidNumber (.int w) μ
theorem len_check_length {A : Cls} : ∀ ds μ q e, c_check_length A ds μ q e → ds.length = 1 := fun ds μ q e ⟨_, h, _⟩ => by rw [h]; rfl
theorem ok_check_length {A : Cls} : ∀ ds μ q e, c_check_length A ds μ q e → rd_check_length A e (endsD q) (startD 1 ds) μ := by
  rintro ds μ q e ⟨w, rfl, h⟩
  refine iteD (fun z => ?_) (fun z => ?_)
  · rw [if_neg (by omega)] at h; exact h
  rw [if_pos (by omega)] at h
  exact fin h rfl
@[reducible] def nD (n : Nat) : D := .int (n : Int)
theorem mk_len (w b : Nat) : (mk w b).length ≤ b := by
  unfold mk
  have := List.length_filter_le (fre w b) (List.range b)
  simpa using this
theorem cm_le {w b : Nat} (hb : 0 < b) (n : Nat) : cm (mk w b) b n ≤ n := by
  have := cm_add (w := w) hb 0 n
  rw [Nat.zero_add, cm_zero] at this
  have h2 := List.length_filter_le (fun i => fre w b (0 + i)) (List.range n)
  rw [List.length_range] at h2
  omega
/-! the divisors -/
def c_divisors (A : Cls) : DSp := fun ds μ q e => ∃ b : Nat, ds = [nD b] ∧ 0 < b ∧ b ≤ 4096 ∧ q (.lst ((dv b (Float64.isqrt b)).map nD)) μ
theorem len_divisors {A : Cls} : ∀ ds μ q e, c_divisors A ds μ q e → ds.length = 1 := fun ds μ q e ⟨_, h, _⟩ => by rw [h]; rfl
theorem sq_le {s b : Nat} (h : s * s ≤ b) (hb : b ≤ 4096) : s ≤ 64 := by
  refine Nat.le_of_not_lt fun z => ?_
  have : 65 * 65 ≤ s * s := Nat.mul_le_mul z z
  omega
def smT (b s i : Nat) : List Nat := ((List.range i).map (1 + ·)).filter fun d => decide (b % d = 0)
theorem ok_divisors {A : Cls} : ∀ ds μ q e, c_divisors A ds μ q e → rd_divisors A e (endsD q) (startD 3 ds) μ := by
  rintro ds μ q e ⟨b, rfl, hb, hb2, h⟩
  obtain ⟨h1, h2⟩ := isq_spec b (by omega)
  have hs := sq_le h1 hb2
  generalize hS : Float64.isqrt b = s at h h1 h2 hs
  refine ⟨show (0 : Int) ≤ (b : Int) by omega, show (b : Int) < 2 ^ 64 by omega, ?_⟩
  have e0 : (b : Int).toNat = b := by omega
  rw [e0, hS]
  have e1 : ((s : Int) + 1 - 1).toNat = s := by omega
  refine ⟨fun i l μ' => μ' = μ ∧ l = (sm b i).map nD, ⟨rfl, rfl⟩, fun i l μ' hi hP => ⟨trivial, ?_⟩, ?_, ?_⟩
  · have := sm_len b i
    rw [ints_len, e1] at hi
    rw [hP.2, List.length_map, sizeLine_eq]
    omega
  · rintro i d l μ' hi ⟨rfl, rfl⟩
    obtain ⟨hn, rfl⟩ := ints_get hi
    rw [e1] at hn
    have hz : (1 : Int) + (i : Int) = ((1 + i : Nat) : Int) := by omega
    rw [hz]
    refine ⟨show (0 : Int) < ((1 + i : Nat) : Int) by omega, ?_⟩
    refine iteD (fun z => ?_) (fun z => ?_)
    · refine ⟨rfl, ?_⟩
      have : b % (1 + i) = 0 := by exact_mod_cast z
      unfold sm
      rw [List.range_succ, List.map_append, List.filter_append, List.map_append]
      simp [this]
    · refine ⟨rfl, ?_⟩
      have : ¬ b % (1 + i) = 0 := by exact_mod_cast z
      unfold sm
      rw [List.range_succ, List.map_append, List.filter_append, List.map_append]
      simp [this]
  · rintro l μ' ⟨rfl, rfl⟩
    rw [ints_len, e1]
    refine ⟨fun i l μ2 => μ2 = μ' ∧ l = ((((sm b s).reverse.take i).filter fun d => decide (d * d ≠ b)).map fun d => b / d).map nD, ⟨rfl, rfl⟩, fun i l μ' hi hP => ⟨trivial, ?_⟩, ?_, ?_⟩
    · have k1 := List.length_filter_le (fun d => decide (d * d ≠ b)) ((sm b s).reverse.take i)
      have k2 := sm_len b s
      rw [List.length_take, List.length_reverse] at k1
      rw [hP.2, List.length_map, List.length_map, sizeLine_eq]
      omega
    · rintro i d l μ' hi ⟨rfl, rfl⟩
      rw [← List.map_reverse] at hi
      obtain ⟨m, hm, rfl⟩ := map_get hi
      have hmem := sm_mem.mp (List.mem_reverse.mp (List.mem_of_getElem? hm))
      refine ⟨CMul_nat (by omega) (by omega), ?_⟩
      refine iteB (fun z => ?_) (fun z => ?_)
      · refine ⟨CDiv_of (by omega) (by omega), ?_⟩
        refine ⟨rfl, ?_⟩
        have : m * m ≠ b := fun w => by
          have : (m : Int) * (m : Int) = (b : Int) := by exact_mod_cast w
          rw [decide_eq_true this] at z; cases z
        rw [List.take_add_one, hm, List.filter_append, List.map_append, List.map_append]
        simp [this]
      · refine ⟨rfl, ?_⟩
        have : m * m = b := by
          have z : decide ((m : Int) * (m : Int) = (b : Int)) = true := by
            cases e : decide ((m : Int) * (m : Int) = (b : Int)) with
            | true => rfl
            | false => rw [e] at z; cases z
          exact_mod_cast of_decide_eq_true z
        rw [List.take_add_one, hm, List.filter_append, List.map_append, List.map_append]
        simp [this]
    · rintro l μ' ⟨rfl, rfl⟩
      have k0 : ((sm b s).reverse.map nD).length = (sm b s).length := by simp
      rw [← List.map_reverse, List.length_map, List.take_length]
      have k1 := sm_len b s
      have k2 := lg_len b s
      refine ⟨?_, ?_⟩
      · rw [sizeLine_eq, List.length_map, List.length_map]
        show _ + (lg b s).length ≤ _
        omega
      · refine fin h (congrArg D.lst ?_)
        rw [← List.map_append]
        rfl
end Law

set_option linter.all false
set_option maxRecDepth 100000
set_option maxHeartbeats 1000000
namespace Law
open PySem L2 DL Ar
def c_is_free_length (A : Cls) : DSp := fun ds μ q e => ∃ w b L : Nat, ds = [nD w, nD b, nD L] ∧ 0 < b ∧ b ≤ 4096 ∧ w ≤ 4096 ∧ L < 2 ^ 200 ∧ q (.bl (fre w b L)) μ
theorem len_is_free_length {A : Cls} : ∀ ds μ q e, c_is_free_length A ds μ q e → ds.length = 3 := fun ds μ q e ⟨_, _, _, h, _⟩ => by rw [h]; rfl
theorem ok_is_free_length {A : Cls} : ∀ ds μ q e, c_is_free_length A ds μ q e → rd_is_free_length A e (endsD q) (startD 3 ds) μ := by
  rintro ds μ q e ⟨w, b, L, rfl, hb, hb2, hw, hL, h⟩
  have g := Nat.le_of_dvd hb (Nat.gcd_dvd_right L b)
  have eg : ((Nat.gcd (L : Int).natAbs (b : Int).natAbs : Nat) : Int) = ((Nat.gcd L b : Nat) : Int) := by simp
  refine ⟨by rw [eg]; exact CMul_nat (by omega) (by omega), ?_⟩
  refine fin h (congrArg D.bl ?_)
  rw [fre_mul hb, decide_eq_decide, eg]
  exact_mod_cast Iff.rfl
@[reducible] def tD (e : Nat × Int) : D := .tup [nD e.1, .int e.2]
def c_signed_divisors (A : Cls) : DSp := fun ds μ q e => ∃ w b : Nat, ds = [nD w, nD b] ∧ 0 < b ∧ b ≤ 4096 ∧ w ≤ 4096 ∧ ∀ fd, SG w b fd → q (.lst (fd.map tD)) μ
theorem len_signed_divisors {A : Cls} : ∀ ds μ q e, c_signed_divisors A ds μ q e → ds.length = 2 := fun ds μ q e ⟨_, _, h, _⟩ => by rw [h]; rfl
theorem ok_signed_divisors {A : Cls} : ∀ ds μ q e, c_signed_divisors A ds μ q e → rd_signed_divisors A (c_divisors A) (c_is_free_length A) e (endsD q) (startD 8 ds) μ := by
  rintro ds μ q e ⟨w, b, rfl, hb, hb2, hw, h⟩
  obtain ⟨h1, h2⟩ := isq_spec b (by omega)
  have hs := sq_le h1 hb2
  refine ⟨sz 0 rfl (by decide), fun p hp => ?_⟩
  refine ⟨b, rfl, hb, hb2, ?_⟩
  have hmem := fun d => dv_mem (d := d) hb h1 h2
  have hsort := dv_sorted hb h1 h2
  have hlen := dv_len b (Float64.isqrt b)
  generalize dv b (Float64.isqrt b) = l at hmem hsort hlen
  refine ⟨fun i δ μ' => ∃ x3 x4 x5 fd, δ = [some (nD w), some (nD b), some (.adr p), x3, x4, x5, none, none] ∧ μ' = updM μ p (.lst (fd.map tD)) ∧ SD w b l i fd, ⟨none, none, none, [], rfl, rfl, .zero w b l⟩, fun _ _ _ _ _ => trivial, ?_, ?_⟩
  · rintro i d δ μ' hi ⟨x3, x4, x5, fd, rfl, rfl, hS⟩
    obtain ⟨m, hm, rfl⟩ := map_get hi
    have mb : m ∣ b := (hmem m).mp (List.mem_of_getElem? hm)
    have m0 := Nat.pos_of_dvd_of_pos mb hb
    have m1 := Nat.le_of_dvd hb mb
    have hil : i < l.length := (List.getElem?_eq_some_iff.mp hm).1
    refine ⟨fd.map tD, updM_same _ _ _, ?_⟩
    refine ⟨fun j k μ2 => μ2 = updM μ p (.lst (fd.map tD)) ∧ k = (((fd.take j).filter fun e => decide (m % e.1 = 0)).map fun e => e.2).map D.int, ⟨rfl, rfl⟩, fun j k μ2 hj hP => ⟨by rw [hP.1]; exact updM_same _ _ _, ?_⟩, ?_, ?_⟩
    · have k1 := List.length_filter_le (fun e : Nat × Int => decide (m % e.1 = 0)) (fd.take j)
      rw [List.length_take] at k1
      have := hS.len
      rw [hP.2, List.length_map, List.length_map, sizeLine_eq]
      omega
    · rintro j d k μ2 hj ⟨rfl, rfl⟩
      obtain ⟨e, he, rfl⟩ := map_get hj
      have e1 := (hmem e.1).mp (List.mem_of_mem_take (hS.mem e (List.mem_of_getElem? he)))
      have e0 := Nat.pos_of_dvd_of_pos e1 hb
      refine ⟨rfl, ?_⟩
      refine ⟨show (0 : Int) < (e.1 : Int) by omega, ?_⟩
      refine iteD (fun z => ?_) (fun z => ?_)
      · refine ⟨rfl, ?_⟩
        have : m % e.1 = 0 := by exact_mod_cast z
        rw [List.take_add_one, he, List.filter_append, List.map_append, List.map_append]
        simp [this]
      · refine ⟨rfl, ?_⟩
        have : ¬ m % e.1 = 0 := by exact_mod_cast z
        rw [List.take_add_one, he, List.filter_append, List.map_append, List.map_append]
        simp [this]
    · rintro k μ2 ⟨rfl, rfl⟩
      rw [List.length_map, List.take_length]
      refine ⟨_, rfl, ?_⟩
      refine ⟨w, b, m, rfl, hb, hb2, hw, by omega, ?_⟩
      have hv : (((fd.filter fun e => decide (m % e.1 = 0)).map fun e => e.2).sum) = sg fd m := rfl
      rw [hv]
      have fin1 : ∀ n : Int, n = want w b m → ¬ (!decide (sg fd m = n)) = true → SD w b l (i + 1) fd := fun n e z => by
        refine hS.keep hm ?_
        rw [← e]
        cases k : decide (sg fd m = n) with
        | true => exact of_decide_eq_true k
        | false => rw [k] at z; exact absurd rfl z
      have l3 : (fd.map tD).length < sizeLine := by rw [sizeLine_eq, List.length_map]; have := hS.len; omega
      have pos : ∀ x ∈ l, 0 < x := fun x hx => Nat.pos_of_dvd_of_pos ((hmem x).mp hx) hb
      have put : ∀ n : Int, n = want w b m → updM (updM μ p (.lst (fd.map tD))) p (.lst (fd.map tD ++ [.tup [nD m, .int (n - sg fd m)]])) = updM μ p (.lst ((fd ++ [(m, want w b m - sg fd m)]).map tD)) := fun n e => by
        rw [updM_updM, List.map_append, e]; rfl
      refine iteB (fun z => ?_) (fun z => ?_)
      · have hn : (1 : Int) = want w b m := by unfold want; rw [if_pos z]
        refine iteB (fun z2 => ?_) (fun z2 => ?_)
        · refine ⟨⟨_, updM_same _ _ _⟩, sz 2 rfl (by decide), ⟨_, updM_same _ _ _, l3, ?_⟩⟩
          exact ⟨_, _, _, _, rfl, put 1 hn, hS.put hsort pos hm⟩
        · exact ⟨_, _, _, _, rfl, rfl, fin1 1 hn (by rw [z2]; decide)⟩
      · have hn : (0 : Int) = want w b m := by unfold want; rw [if_neg (by rw [z]; decide)]
        refine iteB (fun z2 => ?_) (fun z2 => ?_)
        · refine ⟨⟨_, updM_same _ _ _⟩, sz 2 rfl (by decide), ⟨_, updM_same _ _ _, l3, ?_⟩⟩
          exact ⟨_, _, _, _, rfl, put 0 hn, hS.put hsort pos hm⟩
        · exact ⟨_, _, _, _, rfl, rfl, fin1 0 hn (by rw [z2]; decide)⟩
  · rintro δ μ' ⟨x3, x4, x5, fd, rfl, rfl, hS⟩
    rw [List.length_map] at hS
    have hg := SG.of hb hmem (by omega) hS
    have e : updM μ p (.lst (fd.map tD)) p = some (.lst (fd.map tD)) := updM_same _ _ _
    conv => whnf
    rw [e]
    exact finS (μ2 := μ) (by rw [delM_updM _ hp]; exact Sub.refl _) (h fd hg) rfl
end Law

set_option linter.all false
set_option maxRecDepth 100000
set_option maxHeartbeats 1000000
namespace Law
open PySem L2 DL Ar
/-- what least_length tells -/
def LLis (w b len : Nat) (r : D) : Prop := (mk w b = [] ∧ r = .non) ∨ ∃ x : Nat, r = nD x ∧ LL w b len x
def c_least_length (A : Cls) : DSp := fun ds μ q e => ∃ (w b len : Nat), ds = [nD w, nD b, nD len] ∧ 0 < b ∧ b ≤ 4096 ∧ w ≤ 32 ∧ 0 < w ∧ 0 < len ∧ len < 2 ^ 190 ∧ ∀ r, LLis w b len r → q r μ
theorem len_least_length {A : Cls} : ∀ ds μ q e, c_least_length A ds μ q e → ds.length = 3 := fun ds μ q e ⟨_, _, _, h, _⟩ => by rw [h]; rfl
theorem ok_least_length {A : Cls} : ∀ ds μ q e, c_least_length A ds μ q e → rd_least_length A (c_check_banks A) (c_check_length A) (c_check_wave A) (c_is_free_length A) e (endsD q) (startD 4 ds) μ := by
  rintro ds μ q e ⟨w, b, len, rfl, hb, hb2, hw, hw0, hl, hl2, h⟩
  refine ⟨w, rfl, iteP (by omega) ?_⟩
  refine ⟨b, rfl, iteP (by omega) ?_⟩
  refine ⟨len, rfl, iteP (by omega) ?_⟩
  refine iteD (fun z => ?_) (fun z => ?_)
  · have : mk w b = [] := (fre_none hb hw0).mpr (by omega)
    exact fin (h .non (.inl ⟨this, rfl⟩)) rfl
  · have hne : mk w b ≠ [] := fun e => by have := (fre_none hb hw0).mp e; omega
    obtain ⟨i0, hi0, hf0⟩ := some_in (lo := len) hb hne
    refine ⟨fun m δ μ' => ∃ j : Nat, δ = [some (nD w), some (nD b), some (nD len), some (nD (len + j))] ∧ μ' = μ ∧ j + m = i0 ∧ ∀ y, len ≤ y → y < len + j → fre w b y = false, ⟨i0, 0, rfl, rfl, by omega, fun y h1 h2 => by omega⟩, ?_⟩
    rintro m δ μ' ⟨j, rfl, rfl, hj, hy⟩
    refine ⟨w, b, len + j, rfl, hb, hb2, by omega, by omega, ?_⟩
    refine iteB (fun z => ?_) (fun z => ?_)
    · have z : fre w b (len + j) = false := by
        cases k : fre w b (len + j) with
        | true => rw [k] at z; cases z
        | false => rfl
      have hlt : j ≠ i0 := fun k => by rw [k, hf0] at z; cases z
      refine ⟨m - 1, by omega, j + 1, ?_, rfl, by omega, fun y h1 h2 => ?_⟩
      · show [some (nD w), some (nD b), some (nD len), some (D.int (((len + j : Nat) : Int) + 1))] = _
        rw [show ((len + j : Nat) : Int) + 1 = ((len + (j + 1) : Nat) : Int) by omega]
      · rcases (show y < len + j ∨ y = len + j by omega) with k | k
        · exact hy y h1 k
        · rw [k]; exact z
    · have z : fre w b (len + j) = true := by
        cases k : fre w b (len + j) with
        | true => rfl
        | false => rw [k] at z; cases z
      exact fin (h (nD (len + j)) (.inr ⟨len + j, rfl, ⟨by omega, z, fun y h1 h2 => hy y h1 h2⟩⟩)) rfl
theorem CMul_diff {t : Int} {x y n : Nat} (ht : t.natAbs ≤ 2 ^ 200) (hx : x ≤ n) (hy : y ≤ n) (hn : n < 2 ^ 190) : CMulD t ((x : Int) - (y : Int)) := CMul_of (by omega) (by omega) (by omega) (by omega)
def c_count_lengths (A : Cls) : DSp := fun ds μ q e => ∃ (w b lo hi : Nat), ds = [nD w, nD b, nD lo, nD hi] ∧ 0 < b ∧ b ≤ 4096 ∧ w ≤ 32 ∧ 0 < w ∧ 0 < lo ∧ lo ≤ hi ∧ hi < 2 ^ 190 ∧ q (.int ((cm (mk w b) b (hi + 1) : Nat) - (cm (mk w b) b lo : Nat))) μ
theorem len_count_lengths {A : Cls} : ∀ ds μ q e, c_count_lengths A ds μ q e → ds.length = 4 := fun ds μ q e ⟨_, _, _, _, h, _⟩ => by rw [h]; rfl
theorem ok_count_lengths {A : Cls} : ∀ ds μ q e, c_count_lengths A ds μ q e → rd_count_lengths A (c_check_banks A) (c_check_length A) (c_check_wave A) (c_signed_divisors A) e (endsD q) (startD 7 ds) μ := by
  rintro ds μ q e ⟨w, b, lo, hi, rfl, hb, hb2, hw, hw0, hl, hlh, hl2, h⟩
  refine ⟨w, rfl, iteP (by omega) ?_⟩
  refine ⟨b, rfl, iteP (by omega) ?_⟩
  refine ⟨lo, rfl, iteP (by omega) ?_⟩
  refine iteDF (by omega) ?_
  refine ⟨w, b, rfl, hb, hb2, by omega, fun fd hg => ?_⟩
  have ea : (lo : Int) - 1 = ((lo - 1 : Nat) : Int) := by omega
  refine ⟨fun j k μ2 => μ2 = μ ∧ k = ((fd.take j).map fun e => e.2 * (((hi / e.1 : Nat) : Int) - (((lo - 1) / e.1 : Nat) : Int))).map D.int, ⟨rfl, rfl⟩, fun j k μ2 hj hP => ⟨trivial, ?_⟩, ?_, ?_⟩
  · have := hg.len
    rw [List.length_map] at hj
    rw [hP.2, List.length_map, List.length_map, List.length_take, sizeLine_eq]
    omega
  · rintro j d k μ2 hj ⟨rfl, rfl⟩
    obtain ⟨e, he, rfl⟩ := map_get hj
    have hm := List.mem_of_getElem? he
    obtain ⟨e0, e1⟩ := hg.dvd e hm
    have e2 := Nat.le_of_dvd hb e1
    have e3 := hg.big e hm
    have d1 := Nat.div_le_self hi e.1
    have d2 := Nat.div_le_self (lo - 1) e.1
    refine ⟨rfl, ?_⟩
    refine ⟨CDiv_of (by omega) (by omega), ?_⟩
    refine ⟨CDiv_of (by omega) (by omega), ?_⟩
    have q1 : (hi : Int) / (e.1 : Int) = ((hi / e.1 : Nat) : Int) := rfl
    have q2 : ((lo : Int) - 1) / (e.1 : Int) = (((lo - 1) / e.1 : Nat) : Int) := by rw [ea]; rfl
    show CMulD e.2 ((hi : Int) / (e.1 : Int) - ((lo : Int) - 1) / (e.1 : Int)) ∧ _ = _ ∧ _ ++ [D.int (e.2 * ((hi : Int) / (e.1 : Int) - ((lo : Int) - 1) / (e.1 : Int)))] = _
    rw [q1, q2]
    refine ⟨CMul_diff (n := hi) e3 d1 (Nat.le_trans d2 (by omega)) hl2, rfl, ?_⟩
    rw [List.take_add_one, he, List.map_append, List.map_append]
    rfl
  · rintro k μ2 ⟨rfl, rfl⟩
    rw [List.length_map, List.take_length]
    refine ⟨_, rfl, ?_⟩
    refine fin h (congrArg D.int ?_)
    have := cnt_cm hb hg (lo - 1) (hi - (lo - 1))
    rw [show lo - 1 + (hi - (lo - 1)) = hi by omega, show lo - 1 + 1 = lo by omega] at this
    exact this
end Law

set_option linter.all false
set_option maxRecDepth 100000
set_option maxHeartbeats 1000000
namespace Law
open PySem L2 DL Ar
def c__law_pool (A : Cls) : DSp := fun ds μ q e => ∃ (ns : List Int) (i : Nat), ds = [.rol (ns.map D.int), .int i] ∧ i ≤ 1000 ∧ ns.length ≤ 63 ∧ ∀ p μ', μ p = none → Src p μ' 0 → Ge p μ μ' → q (.adr p) μ'
theorem len__law_pool {A : Cls} : ∀ ds μ q e, c__law_pool A ds μ q e → ds.length = 2 := fun ds μ q e ⟨_, _, h, _⟩ => by rw [h]; rfl
theorem pool_end {q : DK} {μ : Mu} {x i : Int} (i0 : 0 ≤ i) (i1 : i ≤ 1000) (h : ∀ p μ', μ p = none → Src p μ' 0 → Ge p μ μ' → q (.adr p) μ') :
    CPowD 10 18 ∧ (CModD x 2305843009213693951 ∧ CMulD 3367900313 (i + 1) ∧ ([D.int (if (if x < 0 then -x else x) - 10 ^ (18 : Int).toNat > 0 then (if x < 0 then -x else x) - 10 ^ (18 : Int).toNat else 0), .int (x % 2305843009213693951 + 3367900313 * (i + 1)), .int 0].length ≤ sizeLine ∧
      ∀ p, μ p = none → ∃ μ2, Sub μ2 (updM μ p (.lst [D.int (if (if x < 0 then -x else x) - 10 ^ (18 : Int).toNat > 0 then (if x < 0 then -x else x) - 10 ^ (18 : Int).toNat else 0), .int (x % 2305843009213693951 + 3367900313 * (i + 1)), .int 0])) ∧ q (.adr p) μ2)) := by
  refine ⟨CPow_of (j := 18) (by decide) (by decide) (by decide), (by decide : (0 : Int) < 2305843009213693951), CMul_of (by omega) (by omega) (by omega) (by omega), sz 3 rfl (by decide), fun p hp => ?_⟩
  have r := mod_ne (a := x) (b := 2305843009213693951) (by decide)
  refine fin (h p _ hp ⟨_, _, 0, updM_same _ _ _, ?_, ?_, ?_, by decide, by decide⟩ Ge.upd) rfl
  · generalize (if x < 0 then -x else x) - 10 ^ (18 : Int).toNat = y
    split <;> omega
  · omega
  · omega
theorem ok__law_pool {A : Cls} : ∀ ds μ q e, c__law_pool A ds μ q e → rd__law_pool A e (endsD q) (startD 3 ds) μ := by
  rintro ds μ q e ⟨ns, i, rfl, hi, hl, h⟩
  refine iteD (fun z => ?_) (fun z => ?_)
  · have z : (i : Int) < ((ns.map D.int).length : Nat) := z
    obtain ⟨v, h1, h2⟩ := atI_some (l := ns.map D.int) (x := (i : Int)) (by omega) z
    obtain ⟨x, h3, rfl⟩ := map_get h2
    conv => whnf
    rw [h1]
    exact pool_end (by omega) (by omega) h
  · exact pool_end (x := 0) (by omega) (by omega) h
def c__law_draw (A : Cls) : DSp := fun ds μ q e => ∃ p m n, ds = [.adr p, .int m] ∧ Src p μ n ∧ n < 2 ^ 64 ∧ 0 < m ∧ m < 2 ^ 256 ∧ ∀ x μ', 0 ≤ x → x < m → Src p μ' (n + 1) → Ge p μ μ' → q (.int x) μ'
theorem len__law_draw {A : Cls} : ∀ ds μ q e, c__law_draw A ds μ q e → ds.length = 2 := fun ds μ q e ⟨_, _, _, h, _⟩ => by rw [h]; rfl
theorem ok__law_draw {A : Cls} : ∀ ds μ q e, c__law_draw A ds μ q e → rd__law_draw A e (endsD q) (startD 4 ds) μ := by
  rintro ds μ q e ⟨p, m, n, rfl, ⟨g, s, c, hm, g0, s0, s1, c0, c1⟩, hn, m0, m1, h⟩
  refine ⟨_, _, hm, rfl, ?_⟩
  refine iteD (fun z => ?_) (fun z => ?_)
  · refine ⟨_, _, hm, rfl, m0, ?_⟩
    refine ⟨_, _, hm, rfl, CDiv_of m0 m1, ?_⟩
    refine ⟨_, _, hm, rfl, ?_⟩
    have r := mod_ne (a := g) m0
    exact fin (h (g % m) _ r.1 r.2 ⟨g / m, s, c, updM_same _ _ _, Int.ediv_nonneg g0 (by omega), s0, s1, c0, by omega⟩ Ge.upd) rfl
  refine ⟨_, _, hm, rfl, ?_⟩
  refine ⟨_, _, hm, rfl, ?_⟩
  refine ⟨_, _, updM_same _ _ _, rfl, ?_⟩
  refine ⟨_, _, updM_same _ _ _, rfl, ?_⟩
  refine ⟨CMul_of (by omega) (by omega) (by omega) (by omega), ?_⟩
  refine ⟨CPow_big (j := 3) (by omega) (by omega) (by decide), (by decide : (0 : Int) < 162259276829213363391578010288127), ?_⟩
  have r1 := mod_ne (a := (s + 15488257 * (c + 1)) ^ 3) (b := 162259276829213363391578010288127) (by decide)
  refine ⟨_, _, updM_same _ _ _, rfl, ?_⟩
  refine ⟨CMul_of (by omega) (by omega) (by omega) (by omega), ?_⟩
  refine ⟨CPow_big (i := (s + 15488257 * (c + 1)) ^ 3 % 162259276829213363391578010288127 + 32453651 * (c + 1)) (j := 5) (by omega) (by omega) (by decide), (by decide : (0 : Int) < 170141183460469231731687303715884105727), ?_⟩
  refine ⟨CDiv_of (by decide) (by decide), m0, ?_⟩
  have r := mod_ne (a := ((s + 15488257 * (c + 1)) ^ 3 % 162259276829213363391578010288127 + 32453651 * (c + 1)) ^ 5 % 170141183460469231731687303715884105727 / 1048576) m0
  exact fin (h _ _ r.1 r.2 ⟨g, s, c + 1, updM_same _ _ _, g0, s0, s1, by omega, by omega⟩ Ge.upd) rfl
def c__law_span (A : Cls) : DSp := fun ds μ q e => ∃ p n, ds = [.adr p] ∧ Src p μ n ∧ n < 2 ^ 60 ∧ ∀ x μ', 1 ≤ x → x ≤ 32 → Src p μ' (n + 2) → Ge p μ μ' → q (.int x) μ'
theorem len__law_span {A : Cls} : ∀ ds μ q e, c__law_span A ds μ q e → ds.length = 1 := fun ds μ q e ⟨_, _, h, _⟩ => by rw [h]; rfl
theorem ok__law_span {A : Cls} : ∀ ds μ q e, c__law_span A ds μ q e → rd__law_span A (c__law_draw A) e (endsD q) (startD 1 ds) μ := by
  rintro ds μ q e ⟨p, n, rfl, hs, hn, h⟩
  refine ⟨p, 32, n, rfl, hs, by omega, by decide, by decide, ?_⟩
  intro x μ1 x0 x1 hs1 k1
  refine ⟨sz 10 rfl (by decide), ?_⟩
  refine ⟨p, 10, n + 1, rfl, hs1, by omega, by decide, by decide, ?_⟩
  intro y μ2 y0 y1 hs2 k2
  refine pickL [1, 2, 3, 4, 5, 8, 16, 31, 32, 1 + x] (fun v => 1 ≤ v ∧ v ≤ 32) μ2 y0 y1 ?_ fun v hv => ?_
  · intro v hv
    simp only [List.mem_cons, List.not_mem_nil, or_false] at hv
    omega
  · exact fin (h v μ2 hv.1 hv.2 (hs2.le (by omega)) (k1.trans k2)) rfl
def c__law_is_free (A : Cls) : DSp := fun ds μ q e => ∃ (w b L : Nat), ds = [nD w, nD b, nD L] ∧ 0 < b ∧ b ≤ 4096 ∧ w ≤ 32 ∧ 0 < w ∧ L < 2 ^ 200 ∧ q (.bl (fre w b L)) μ
theorem len__law_is_free {A : Cls} : ∀ ds μ q e, c__law_is_free A ds μ q e → ds.length = 3 := fun ds μ q e ⟨_, _, _, h, _⟩ => by rw [h]; rfl
theorem ok__law_is_free {A : Cls} : ∀ ds μ q e, c__law_is_free A ds μ q e → rd__law_is_free A e (endsD q) (startD 4 ds) μ := by
  rintro ds μ q e ⟨w, b, L, rfl, hb, hb2, hw, hw0, hL, h⟩
  refine ⟨fun i l μ' => μ' = μ ∧ l = (cells i b L).map D.int, ⟨rfl, rfl⟩, fun i l μ' hi hP => ⟨trivial, ?_⟩, ?_, ?_⟩
  · rw [ints_len] at hi
    rw [hP.2, List.length_map, cells_len, sizeLine_eq]
    omega
  · rintro i d l μ' hi ⟨rfl, rfl⟩
    obtain ⟨hn, rfl⟩ := ints_get hi

    have hz : (0 : Int) + (i : Int) = (i : Int) := by omega
    rw [hz]
    refine ⟨CMul_nat (by omega) (by omega), ?_⟩
    refine ⟨show (0 : Int) < (b : Int) by omega, rfl, ?_⟩
    unfold cells
    rw [List.range_succ, List.map_append, List.map_append]
    rfl
  · rintro l μ' ⟨rfl, rfl⟩
    rw [ints_len]
    refine ⟨cells w b L, rfl, by rw [cells_len]; omega, fun out nd hm hle => ?_⟩
    refine fin h (congrArg D.bl ?_)
    rw [← set_len hb nd hm, decide_eq_decide]
    exact_mod_cast Iff.rfl
end Law

set_option linter.all false
set_option maxRecDepth 100000
set_option maxHeartbeats 2000000
namespace Law
open PySem L2 DL Ar
/-- the free ones of a window -/
def nearL (w b L n : Nat) : List Nat := ((List.range n).filter fun i => fre w b (L + i)).map (L + ·)
theorem near_succ (w b L n : Nat) : nearL w b L (n + 1) = nearL w b L n ++ (if fre w b (L + n) = true then [L + n] else []) := by
  unfold nearL
  rw [List.range_succ, List.filter_append, List.map_append]
  congr 1
  by_cases h : fre w b (L + n) = true <;> simp [h]
theorem near_len {w b : Nat} (hb : 0 < b) (L n : Nat) : cm (mk w b) b (L + n) = cm (mk w b) b L + (nearL w b L n).length := by
  rw [cm_add hb, nearL, List.length_map]
theorem near_head (w b L : Nat) : ∀ n, (nearL w b L n = [] ∧ ∀ i, i < n → fre w b (L + i) = false) ∨ ∃ y r, nearL w b L n = y :: r ∧ LL w b L y ∧ y < L + n
  | 0 => .inl ⟨rfl, fun i hi => by omega⟩
  | n + 1 => by
    rw [near_succ]
    rcases near_head w b L n with ⟨h1, h2⟩ | ⟨y, r, h1, h2, h3⟩
    · cases e : fre w b (L + n) with
      | false =>
        refine .inl ⟨by rw [h1]; rfl, fun i hi => ?_⟩
        rcases (show i < n ∨ i = n by omega) with z | z
        · exact h2 i z
        · rw [z]; exact e
      | true =>
        refine .inr ⟨L + n, [], by rw [h1]; rfl, ⟨by omega, e, fun y y1 y2 => ?_⟩, by omega⟩
        have := h2 (y - L) (by omega)
        rwa [show L + (y - L) = y by omega] at this
    · exact .inr ⟨y, r ++ _, by rw [h1]; rfl, h2, by omega⟩
theorem near_none {w b L n : Nat} (hb : 0 < b) (hn : b ≤ n) (h : nearL w b L n = []) : mk w b = [] := by
  refine Classical.byContradiction fun z => ?_
  obtain ⟨i, hi, e⟩ := some_in (lo := L) hb z
  rcases near_head w b L n with ⟨_, h2⟩ | ⟨y, r, h1, _⟩
  · rw [h2 i (by omega)] at e; cases e
  · rw [h] at h1; cases h1
theorem near_nle (w b L n : Nat) : (nearL w b L n).length ≤ n := by
  unfold nearL
  rw [List.length_map]
  have := List.length_filter_le (fun i => fre w b (L + i)) (List.range n)
  simpa using this
theorem LLis.uniq {w b L : Nat} {r s : D} (hb : 0 < b) (h : LLis w b L r) (k : LLis w b L s) : r = s := by
  rcases h with ⟨h1, h2⟩ | ⟨x, h1, h2⟩ <;> rcases k with ⟨k1, k2⟩ | ⟨y, k1, k2⟩
  · rw [h2, k2]
  · have := (mk_nil hb).mp h1 y; rw [k2.2.1] at this; cases this
  · have := (mk_nil hb).mp k1 x; rw [h2.2.1] at this; cases this
  · rw [h1, k1, LL.unique h2 k2]
theorem LLis.plain {w b L k : Nat} {r : D} (h : LLis w b L r) : plainD k r = true := by
  rcases h with ⟨h1, rfl⟩ | ⟨x, rfl, h2⟩ <;> cases k <;> rfl
theorem plain_nat (k : Nat) (l : List Nat) : plainDs k (l.map nD) = true := by
  induction l with
  | nil => cases k <;> rfl
  | cons x l ih => cases k <;> exact ih
/-- near: the window's list -/
theorem near_lc {A : Cls} {w b L n : Nat} {μ : Mu} {δ : DS} {q : DK} (hb : 0 < b) (hb2 : b ≤ 4096) (hw : w ≤ 32) (hw0 : 0 < w) (hL : L + n < 2 ^ 190) (hn : n ≤ 20000) (vs : List Nat)
    (h1 : (wipeD δ vs)[1]? = some (some (nD w))) (h3 : (wipeD δ vs)[3]? = some (some (nD b))) (hl : 12 < (wipeD δ vs).length) (ti : DTI) (ht : ∀ R, R (intsD (L : Int) n) (fun _ => True) μ → ti δ μ R)
    (k : q (.lst ((nearL w b L n).map nD)) μ) : dLc ti (dgName 12) (dTru (dCall (c__law_is_free A) eN [] (dCons (dVar 1) (dCons (dVar 3) (dCons (dVar 12) dNil))))) (dVar 12) vs δ μ q := by
  refine ht _ ⟨fun i l μ' => μ' = μ ∧ l = (nearL w b L i).map nD, ⟨rfl, rfl⟩, fun i l μ' hi hP => ⟨trivial, ?_⟩, ?_, ?_⟩
  · rw [ints_len] at hi
    rw [hP.2, List.length_map, sizeLine_eq]
    have := near_nle w b L i
    omega
  · rintro i d l μ' hi ⟨rfl, rfl⟩
    obtain ⟨hn, rfl⟩ := ints_get hi
    have e1 : ((wipeD δ vs).set 12 (some (D.int ((L : Int) + (i : Int)))))[1]? = some (some (nD w)) := by rw [List.getElem?_set_ne (by decide)]; exact h1
    have e3 : ((wipeD δ vs).set 12 (some (D.int ((L : Int) + (i : Int)))))[3]? = some (some (nD b)) := by rw [List.getElem?_set_ne (by decide)]; exact h3
    have e12 : ((wipeD δ vs).set 12 (some (D.int ((L : Int) + (i : Int)))))[12]? = some (some (nD (L + i))) := by rw [List.getElem?_set_self hl]; rfl
    show dTru _ ((wipeD δ vs).set 12 (some (D.int ((L : Int) + (i : Int))))) _ _
    generalize (wipeD δ vs).set 12 (some (D.int ((L : Int) + (i : Int)))) = δ2 at e1 e3 e12 ⊢
    unfold dTru dCall dCons dVar
    rw [e1]
    dsimp only
    rw [e3]
    dsimp only
    rw [e12]
    dsimp only
    refine ⟨w, b, L + i, rfl, hb, hb2, hw, hw0, by omega, ?_⟩
    refine iteB (fun z => ?_) (fun z => ?_)
    · refine ⟨rfl, ?_⟩
      rw [near_succ, if_pos z, List.map_append]; rfl
    · refine ⟨rfl, ?_⟩
      rw [near_succ, if_neg (by rw [z]; decide), List.append_nil]
  · rintro l μ' ⟨rfl, rfl⟩
    rw [ints_len]
    exact k
theorem win_eq (L b : Nat) : ((L : Int) + 3 * (b : Int) - (L : Int)).toNat = 3 * b := by omega
theorem win_eq2 (L : Nat) : ((L : Int) + 64 - (L : Int)).toNat = 64 := by omega
def c__law_right (A : Cls) : DSp := fun ds μ q e => ∃ p n, ds = [.adr p] ∧ Src p μ n ∧ n < 2 ^ 50 ∧ ∀ μ', Src p μ' (n + 20) → Ge p μ μ' → q (.bl true) μ'
theorem len__law_right {A : Cls} : ∀ ds μ q e, c__law_right A ds μ q e → ds.length = 1 := fun ds μ q e ⟨_, _, h, _⟩ => by rw [h]; rfl
/-- what stands behind the two windows -/
def tailR (A : Cls) (e : DX) : DTS := (dSeq (dAsg (dCall (c_least_length A) e [] (dCons (dVar 1) (dCons (dVar 3) (dCons (dVar 4) dNil)))) (dgName 8))
    (dSeq (dIfS (dOr (dTest (dOp rNeG (dOp rIsNG (dVar 8) (dC .non)) (dOp rGtD (dVar 1) (dVar 3)))) (dAnd (dTest (dOp rNotNG (dVar 8) (dC .non))) (dNot (dTru (dCall (c__law_is_free A) e [] (dCons (dVar 1) (dCons (dVar 3) (dCons (dVar 8) dNil)))))))) (dRet (dC (.bl false))) dNext)
    (dSeq (dPar 9 10 (dCons (dOp rAddD (dVar 4) (dCall (c__law_draw A) e [] (dCons (dVar 0) (dCons (dOp rPowD (dC (.int 10)) (dC (.int 20))) dNil)))) (dCons (dOp rAddD (dOp rAddD (dVar 4) (dOp rPowD (dC (.int 10)) (dC (.int 20)))) (dCall (c__law_draw A) e [] (dCons (dVar 0) (dCons (dOp rPowD (dC (.int 10)) (dC (.int 20))) dNil)))) dNil)))
    (dSeq (dAsg (dCall (c_count_lengths A) e [] (dCons (dVar 1) (dCons (dVar 3) (dCons (dVar 4) (dCons (dVar 10) dNil))))) (dgName 11))
    (dRet (dOp rEqG (dOp rAddD (dCall (c_count_lengths A) e [] (dCons (dVar 1) (dCons (dVar 3) (dCons (dVar 4) (dCons (dVar 9) dNil))))) (dCall (c_count_lengths A) e [] (dCons (dVar 1) (dCons (dVar 3) (dCons (dOp rAddD (dVar 9) (dC (.int 1))) (dCons (dVar 10) dNil)))))) (dVar 11)))))))
theorem ok_tail {A : Cls} {p : Addr} {n : Int} {w b L : Nat} {E : DEnds} {e : DX} {μ : Mu} {x2 x5 x6 x7 x12 : Option D} (hs : Src p μ n) (hn : n < 2 ^ 60) (hb : 0 < b) (hb2 : b ≤ 4096) (hw : w ≤ 32) (hw0 : 0 < w) (hL : 0 < L) (hL2 : L ≤ 10 ^ 29)
    (h : ∀ μ', Src p μ' (n + 2) → Ge p μ μ' → E.rt (.bl true) μ') : tailR A e E [some (.adr p), some (nD w), x2, some (nD b), some (nD L), x5, x6, x7, none, none, none, none, x12] μ := by
  refine ⟨w, b, L, rfl, hb, hb2, hw, hw0, hL, by omega, fun r hr => ?_⟩
  refine ⟨by rfl, by rfl, ?_⟩
  have er : eqD (D.bl (isNonD r)) (D.bl (decide ((w : Int) > (b : Int)))) = true := by
    have : isNonD r = decide ((w : Int) > (b : Int)) := by
      rw [Bool.eq_iff_iff, decide_eq_true_eq]
      rcases hr with ⟨h1, rfl⟩ | ⟨x, rfl, h1⟩
      · constructor
        · intro _
          have := (fre_none hb hw0).mp h1
          omega
        · intro _; rfl
      · refine ⟨fun z => (nomatch z), fun z => ?_⟩
        have := (mk_nil hb).mp ((fre_none hb hw0).mpr (by omega)) x
        rw [h1.2.1] at this; cases this
    rw [this]
    exact eqD_refl (k := 1) rfl
  refine iteF (by show (!eqD _ _) = false; rw [show eqD (nrm μ (D.bl (isNonD r))) (nrm μ (D.bl (decide ((w : Int) > (b : Int))))) = true from er]; rfl) ?_
  -- the second test gives False
  have go : ∀ b2 : Bool, b2 = false → (if b2 = true then E.rt (.bl false) μ else
      (dSeq (dPar 9 10 (dCons (dOp rAddD (dVar 4) (dCall (c__law_draw A) e [] (dCons (dVar 0) (dCons (dOp rPowD (dC (.int 10)) (dC (.int 20))) dNil)))) (dCons (dOp rAddD (dOp rAddD (dVar 4) (dOp rPowD (dC (.int 10)) (dC (.int 20)))) (dCall (c__law_draw A) e [] (dCons (dVar 0) (dCons (dOp rPowD (dC (.int 10)) (dC (.int 20))) dNil)))) dNil)))
    (dSeq (dAsg (dCall (c_count_lengths A) e [] (dCons (dVar 1) (dCons (dVar 3) (dCons (dVar 4) (dCons (dVar 10) dNil))))) (dgName 11))
    (dRet (dOp rEqG (dOp rAddD (dCall (c_count_lengths A) e [] (dCons (dVar 1) (dCons (dVar 3) (dCons (dVar 4) (dCons (dVar 9) dNil))))) (dCall (c_count_lengths A) e [] (dCons (dVar 1) (dCons (dVar 3) (dCons (dOp rAddD (dVar 9) (dC (.int 1))) (dCons (dVar 10) dNil)))))) (dVar 11)))))
      E [some (.adr p), some (nD w), x2, some (nD b), some (nD L), x5, x6, x7, some r, none, none, none, x12] μ) := by
    intro b2 e2
    refine iteF e2 ?_
    refine ⟨CPow_of (j := 20) (by decide) (by decide) (by decide), ?_⟩
    refine ⟨p, 10 ^ 20, n, rfl, hs, by omega, by decide, by decide, ?_⟩
    intro u μ1 u0 u1 hs1 k1
    refine ⟨CPow_of (j := 20) (by decide) (by decide) (by decide), ?_⟩
    refine ⟨CPow_of (j := 20) (by decide) (by decide) (by decide), ?_⟩
    refine ⟨p, 10 ^ 20, n + 1, rfl, hs1, by omega, by decide, by decide, ?_⟩
    intro v μ2 v0 v1 hs2 k2
    obtain ⟨u, rfl⟩ := Int.eq_ofNat_of_zero_le u0
    obtain ⟨v, rfl⟩ := Int.eq_ofNat_of_zero_le v0
    have ep : (10 : Int) ^ (20 : Int).toNat = ((10 ^ 20 : Nat) : Int) := by decide
    refine ⟨w, b, L, L + 10 ^ 20 + v, ?_, hb, hb2, hw, hw0, hL, by omega, by omega, ?_⟩
    · show [nD w, nD b, nD L, D.int ((L : Int) + (10 : Int) ^ (20 : Int).toNat + (v : Int))] = _
      rw [ep]; rfl
    refine ⟨w, b, L, L + u, rfl, hb, hb2, hw, hw0, hL, by omega, by omega, ?_⟩
    refine ⟨w, b, L + u + 1, L + 10 ^ 20 + v, ?_, hb, hb2, hw, hw0, by omega, by omega, by omega, ?_⟩
    · show [nD w, nD b, D.int ((L : Int) + (u : Int) + 1), D.int ((L : Int) + (10 : Int) ^ (20 : Int).toNat + (v : Int))] = _
      rw [ep]; rfl
    have := h μ2 (hs2.le (by omega)) (k1.trans k2)
    refine (congrArg (fun z => E.rt (.bl z) μ2) (decide_eq_true ?_)).mpr this
    omega
  rcases hr with ⟨h1, rfl⟩ | ⟨x, rfl, h1⟩
  · exact go false rfl
  · by_cases hx : x < 2 ^ 200
    · refine ⟨w, b, x, rfl, hb, hb2, hw, hw0, hx, ?_⟩
      rw [h1.2.1]
      exact go false rfl
    · exfalso
      have hne : mk w b ≠ [] := fun z => by
        have := (mk_nil hb).mp z x; rw [h1.2.1] at this; cases this
      obtain ⟨i, hi, e⟩ := some_in (lo := L) hb hne
      have := h1.2.2 (L + i) (by omega) (by omega)
      rw [e] at this; cases this
end Law

set_option linter.all false
set_option maxRecDepth 100000
set_option maxHeartbeats 2000000
namespace Law
open PySem L2 DL Ar
def win1 (A : Cls) (e : DX) : DTS := (dIfS (dTest (dOp rLtD (dVar 3) (dC (.int 300)))) (dSeq (dAsg (dLc (diRw2 (dCons (dVar 4) (dCons (dOp rAddD (dVar 4) (dOp rMulD (dC (.int 3)) (dVar 3))) dNil))) (dgName 12) (dTru (dCall (c__law_is_free A) eN [] (dCons (dVar 1) (dCons (dVar 3) (dCons (dVar 12) dNil))))) (dVar 12) [12]) (dgName 5))
    (dSeq (dAsg (dIf (dTest (dOp rNeG (dVar 5) (dLst dNil))) (dOp rIxG (dVar 5) (dC (.int 0))) (dC .non)) (dgName 6))
    (dSeq (dIfS (dTest (dOp rNeG (dLst (dCons (dCall (c_least_length A) e [] (dCons (dVar 1) (dCons (dVar 3) (dCons (dVar 4) dNil)))) (dCons (dCallK (c_least_length A) e 0 3 [2, 1, 0] dNil (dCons (dVar 4) (dCons (dVar 3) (dCons (dVar 1) dNil)))) dNil))) (dLst (dCons (dVar 6) (dCons (dVar 6) dNil))))) (dRet (dC (.bl false))) dNext)
    (dSeq (dAsg (dLstM (dCons (dCall (c_count_lengths A) e [] (dCons (dVar 1) (dCons (dVar 3) (dCons (dVar 4) (dCons (dOp rSubD (dOp rAddD (dVar 4) (dOp rMulD (dC (.int 3)) (dVar 3))) (dC (.int 1))) dNil))))) dNil)) (dgName 7))
    (dSeq (dDrop (dAppend (dVar 7) (dCallK (c_count_lengths A) e 0 4 [3, 2, 1, 0] dNil (dCons (dOp rSubD (dOp rAddD (dVar 4) (dOp rMulD (dC (.int 3)) (dVar 3))) (dC (.int 1))) (dCons (dVar 4) (dCons (dVar 3) (dCons (dVar 1) dNil)))))))
    (dIfS (dOr (dTest (dOp rNeG (dVar 7) (dOp rRepD (dLst (dCons (dCB rLenD (dCons (dVar 5) dNil)) dNil)) (dC (.int 2))))) (dAnd (dTest (dOp rNeG (dVar 5) (dLst dNil))) (dTest (dOp rNeG (dCall (c_count_lengths A) e [] (dCons (dVar 1) (dCons (dVar 3) (dCons (dVar 4) (dCons (dOp rIxG (dVar 5) (dC (.int 0))) dNil))))) (dC (.int 1)))))) (dRet (dC (.bl false))) dNext)))))) dNext)
def win2 (A : Cls) (e : DX) : DTS := (dIfS (dTest (dOp rGtD (dVar 3) (dC (.int 200)))) (dSeq (dAsg (dLc (diRw2 (dCons (dVar 4) (dCons (dOp rAddD (dVar 4) (dC (.int 64))) dNil))) (dgName 12) (dTru (dCall (c__law_is_free A) eN [] (dCons (dVar 1) (dCons (dVar 3) (dCons (dVar 12) dNil))))) (dVar 12) [12]) (dgName 5))
    (dSeq (dIfS (dAnd (dTest (dOp rNeG (dVar 5) (dLst dNil))) (dTest (dOp rNeG (dCall (c_least_length A) e [] (dCons (dVar 1) (dCons (dVar 3) (dCons (dVar 4) dNil)))) (dOp rIxG (dVar 5) (dC (.int 0)))))) (dRet (dC (.bl false))) dNext)
    (dIfS (dTest (dOp rNeG (dCall (c_count_lengths A) e [] (dCons (dVar 1) (dCons (dVar 3) (dCons (dVar 4) (dCons (dOp rAddD (dVar 4) (dC (.int 63))) dNil))))) (dCB rLenD (dCons (dVar 5) dNil)))) (dRet (dC (.bl false))) dNext))) dNext)
theorem plainL {l : List Nat} : plainD 64 (.lst (l.map nD)) = true := plain_nat 63 l
theorem ne_nil (l : List Nat) : (!eqD (.lst (l.map nD)) (.lst [])) = !l.isEmpty := by cases l <;> rfl
theorem ok_win1 {A : Cls} {p : Addr} {n : Int} {w b L : Nat} {E : DEnds} {e : DX} {μ : Mu} {x2 : Option D} (hs : Src p μ n) (hb : 0 < b) (hb2 : b ≤ 4096) (hw : w ≤ 32) (hw0 : 0 < w) (hL : 0 < L) (hL2 : L ≤ 10 ^ 29)
    (h : ∀ μ' x5 x6 x7, Src p μ' n → Ge p μ μ' → E.nx [some (.adr p), some (nD w), x2, some (nD b), some (nD L), x5, x6, x7, none, none, none, none, none] μ') :
    win1 A e E [some (.adr p), some (nD w), x2, some (nD b), some (nD L), none, none, none, none, none, none, none, none] μ := by
  refine iteD (fun z => ?_) (fun z => h μ _ _ _ hs Ge.refl)
  have z : (b : Int) < 300 := z
  refine seq_asg (near_lc (L := L) (n := 3 * b) hb hb2 hw hw0 (by omega) (by omega) [12] ?h1 ?h3 ?hl _ ?ht ?_)
  case h1 => rfl
  case h3 => rfl
  case hl => exact (by decide : 12 < 13)
  case ht =>
    intro R hR
    refine ⟨CMul_of (by decide) (by decide) (by omega) (by omega), ?_⟩
    show R (intsD (L : Int) ((L : Int) + 3 * (b : Int) - (L : Int)).toNat) (fun _ => True) μ
    rw [win_eq]; exact hR
  -- due
  have nl := near_len (w := w) hb L (3 * b)
  have hh := near_head w b L (3 * b)
  have hnone := near_none (w := w) (L := L) (n := 3 * b) hb (by omega)
  generalize hN : nearL w b L (3 * b) = N at nl hh hnone ⊢
  have due : ∃ dd : D, LLis w b L dd ∧ (∀ q : DK, q dd μ → dIf (dTest (dOp rNeG (dVar 5) (dLst dNil))) (dOp rIxG (dVar 5) (dC (.int 0))) (dC .non) [some (.adr p), some (nD w), x2, some (nD b), some (nD L), some (.lst (N.map nD)), none, none, none, none, none, none, none] μ q) := by
    rcases hh with ⟨h1, h2⟩ | ⟨y, r, h1, h2, h3⟩
    · refine ⟨.non, .inl ⟨hnone h1, rfl⟩, fun q k => ?_⟩
      refine ⟨sz 0 rfl (by decide), plainL, rfl, ?_⟩
      refine iteF ((ne_nil N).trans ?_) k
      rw [h1]; rfl
    · refine ⟨nD y, .inr ⟨y, rfl, h2⟩, fun q k => ?_⟩
      refine ⟨sz 0 rfl (by decide), plainL, rfl, ?_⟩
      refine iteT ((ne_nil N).trans ?_) ?_
      · rw [h1]; rfl
      · rw [h1]; exact ixH μ k
  obtain ⟨dd, hdd, hdue⟩ := due
  refine hdue _ ?_
  refine ⟨w, b, L, rfl, hb, hb2, hw, hw0, hL, by omega, fun r1 hr1 => ?_⟩
  refine ⟨rfl, rfl, w, b, L, rfl, hb, hb2, hw, hw0, hL, by omega, fun r2 hr2 => ?_⟩
  obtain rfl := hr1.uniq hb hdd
  obtain rfl := hr2.uniq hb hdd
  refine ⟨sz 2 rfl (by decide), sz 2 rfl (by decide), ?_⟩
  have pl : plainD 64 (.lst [r2, r2]) = true := by
    show (plainD 63 r2 && (plainD 63 r2 && true)) = true
    rw [hdd.plain]; rfl
  refine ⟨pl, pl, ?_⟩
  refine iteF (by show (!eqD (.lst [r2, r2]) (.lst [r2, r2])) = false; rw [eqD_refl pl]; rfl) ?_
  -- told
  refine ⟨CMul_of (by decide) (by decide) (by omega) (by omega), ?_⟩
  have hsub : (L : Int) + 3 * (b : Int) - 1 = ((L + 3 * b - 1 : Nat) : Int) := by omega
  have eN : ((cm (mk w b) b (L + (3 * b) - 1 + 1) : Nat) : Int) - ((cm (mk w b) b L : Nat) : Int) = (N.length : Nat) := by
    rw [show L + 3 * b - 1 + 1 = L + 3 * b by omega, nl]; omega
  refine ⟨w, b, L, L + 3 * b - 1, ?_, hb, hb2, hw, hw0, hL, by omega, by omega, ?_⟩
  · show [nD w, nD b, nD L, D.int ((L : Int) + 3 * (b : Int) - 1)] = _
    rw [hsub]
  rw [eN]
  refine ⟨sz 1 rfl (by decide), fun r hr => ?_⟩
  refine ⟨⟨_, updM_same _ _ _⟩, ?_⟩
  refine ⟨CMul_of (by decide) (by decide) (by omega) (by omega), ?_⟩
  refine ⟨rfl, rfl, w, b, L, L + 3 * b - 1, ?_, hb, hb2, hw, hw0, hL, by omega, by omega, ?_⟩
  · show [nD w, nD b, nD L, D.int ((L : Int) + 3 * (b : Int) - 1)] = _
    rw [hsub]
  rw [eN]
  refine ⟨_, updM_same _ _ _, ?_, ?_⟩
  · show 1 < sizeLine
    rw [sizeLine_eq]; decide
  rw [updM_updM]
  refine ⟨sz 1 rfl (by decide), _, rfl, by decide, ?_, ?_⟩
  · show 1 * 2 ≤ sizeLine
    rw [sizeLine_eq]; decide
  have en : nrm (updM μ r (.lst ([D.int (N.length : Nat)] ++ [D.int (N.length : Nat)]))) (.adr r) = .lst [.int (N.length : Nat), .int (N.length : Nat)] := by
    rw [nrm_new]; rfl
  have e2 : (D.lst (List.replicate (2 : Int).toNat [D.int (((N.map nD).length : Nat) : Int)]).flatten) = .lst [.int (N.length : Nat), .int (N.length : Nat)] := by
    rw [List.length_map]; rfl
  rw [e2]
  refine ⟨by rw [en]; rfl, rfl, ?_⟩
  refine iteF (by rw [en]; show (!eqD (.lst [.int (N.length : Nat), .int (N.length : Nat)]) (.lst [.int (N.length : Nat), .int (N.length : Nat)])) = false; rw [eqD_refl (k := 64) rfl]; rfl) ?_
  refine ⟨sz 0 rfl (by decide), plainL, rfl, ?_⟩
  have fin1 := h (updM μ r (.lst ([D.int (N.length : Nat)] ++ [D.int (N.length : Nat)]))) (some (.lst (N.map nD))) (some r2) (some (.adr r)) (hs.upd hr) (Ge.new hr)
  refine iteB (fun z => ?_) (fun z => ?_)
  · rcases hh with ⟨h1, h2⟩ | ⟨y, rr, h1, h2, h3⟩
    · have z : (!eqD (.lst (N.map nD)) (.lst [])) = true := z
      rw [ne_nil, h1] at z; cases z
    rw [h1]
    conv => whnf
    rw [List.map_cons, ix0]
    refine ⟨w, b, L, y, rfl, hb, hb2, hw, hw0, hL, h2.1, by omega, ?_⟩
    -- one alone
    have ec : ((cm (mk w b) b (y + 1) : Nat) : Int) - ((cm (mk w b) b L : Nat) : Int) = 1 := by
      have s := cm_succ (w := w) hb y
      rw [if_pos h2.2.1] at s
      have a := cm_add (w := w) hb L (y - L)
      rw [show L + (y - L) = y by have := h2.1; omega] at a
      have : ((List.range (y - L)).filter fun i => fre w b (L + i)) = [] := by
        rw [List.filter_eq_nil_iff]
        intro i hi
        have := List.mem_range.mp hi
        rw [h2.2.2 (L + i) (by omega) (by omega)]
        decide
      rw [this, List.length_nil] at a
      omega
    rw [ec]
    rw [h1] at fin1
    exact fin1
  · exact fin1
theorem ok_win2 {A : Cls} {p : Addr} {n : Int} {w b L : Nat} {E : DEnds} {e : DX} {μ : Mu} {x2 x5 x6 x7 : Option D} (hs : Src p μ n) (hb : 0 < b) (hb2 : b ≤ 4096) (hw : w ≤ 32) (hw0 : 0 < w) (hL : 0 < L) (hL2 : L ≤ 10 ^ 29)
    (h : ∀ x5, E.nx [some (.adr p), some (nD w), x2, some (nD b), some (nD L), x5, x6, x7, none, none, none, none, none] μ) :
    win2 A e E [some (.adr p), some (nD w), x2, some (nD b), some (nD L), x5, x6, x7, none, none, none, none, none] μ := by
  refine iteD (fun z => ?_) (fun z => h _)
  refine seq_asg (near_lc (L := L) (n := 64) hb hb2 hw hw0 (by omega) (by omega) [12] ?h1 ?h3 ?hl _ ?ht ?_)
  case h1 => rfl
  case h3 => rfl
  case hl => exact (by decide : 12 < 13)
  case ht =>
    intro R hR
    show R (intsD (L : Int) ((L : Int) + 64 - (L : Int)).toNat) (fun _ => True) μ
    rw [win_eq2]; exact hR
  have nl := near_len (w := w) hb L 64
  have hh := near_head w b L 64
  generalize hN : nearL w b L 64 = N at nl hh ⊢
  have last : dIfS (dTest (dOp rNeG (dCall (c_count_lengths A) e [] (dCons (dVar 1) (dCons (dVar 3) (dCons (dVar 4) (dCons (dOp rAddD (dVar 4) (dC (.int 63))) dNil))))) (dCB rLenD (dCons (dVar 5) dNil)))) (dRet (dC (.bl false))) dNext E [some (.adr p), some (nD w), x2, some (nD b), some (nD L), some (.lst (N.map nD)), x6, x7, none, none, none, none, none] μ := by
    refine ⟨w, b, L, L + 63, rfl, hb, hb2, hw, hw0, hL, by omega, by omega, ?_⟩
    have eN : ((cm (mk w b) b (L + 63 + 1) : Nat) : Int) - ((cm (mk w b) b L : Nat) : Int) = (N.length : Nat) := by
      rw [show L + 63 + 1 = L + 64 by omega, nl]; omega
    rw [eN]
    have e3 : (!decide (((N.length : Nat) : Int) = (((N.map nD).length : Nat) : Int))) = false := by
      rw [List.length_map, decide_eq_true rfl]; rfl
    exact iteF e3 (h _)
  refine ⟨sz 0 rfl (by decide), plainL, rfl, ?_⟩
  refine iteB (fun z => ?_) (fun z => last)
  rcases hh with ⟨h1, h2⟩ | ⟨y, rr, h1, h2, h3⟩
  · have z : (!eqD (.lst (N.map nD)) (.lst [])) = true := z
    rw [ne_nil, h1] at z; cases z
  refine ⟨w, b, L, rfl, hb, hb2, hw, hw0, hL, by omega, fun r hr => ?_⟩
  obtain rfl : r = nD y := hr.uniq hb (.inr ⟨y, rfl, h2⟩)
  have l0 := last
  rw [h1] at l0 ⊢
  conv => whnf
  rw [List.map_cons, ix0]
  rw [List.map_cons] at l0
  refine iteF ?_ l0
  show (!decide ((y : Int) = (y : Int))) = false
  rw [decide_eq_true rfl]; rfl
end Law

set_option linter.all false
set_option maxRecDepth 100000
set_option maxHeartbeats 2000000
namespace Law
open PySem L2 DL Ar
theorem ok__law_right {A : Cls} : ∀ ds μ q e, c__law_right A ds μ q e → rd__law_right A (c__law_draw A) (c__law_is_free A) (c__law_span A) (c_count_lengths A) (c_least_length A) e (endsD q) (startD 13 ds) μ := by
  rintro ds μ q e ⟨p, n, rfl, hs, hn, h⟩
  refine ⟨p, n, rfl, hs, by omega, ?_⟩
  intro w μ1 w0 w1 hs1 k1
  refine ⟨p, 8, _, rfl, hs1, by omega, by decide, by decide, ?_⟩
  intro x1 μ2 a0 a1 hs2 k2
  refine ⟨p, 200, _, rfl, hs2, by omega, by decide, by decide, ?_⟩
  intro x2 μ3 b0 b1 hs3 k3
  refine ⟨p, 3896, _, rfl, hs3, by omega, by decide, by decide, ?_⟩
  intro x3 μ4 c0 c1 hs4 k4
  refine ⟨sz 6 rfl (by decide), ?_⟩
  refine ⟨p, 6, _, rfl, hs4, by omega, by decide, by decide, ?_⟩
  intro x4 μ5 d0 d1 hs5 k5
  refine pickL [1 + x1, 32, 64, 1 + x2, 4096, 201 + x3] (fun v => 1 ≤ v ∧ v ≤ 4096) μ5 d0 d1 ?_ fun b hb => ?_
  · intro v hv
    simp only [List.mem_cons, List.not_mem_nil, or_false] at hv
    omega
  refine ⟨CPow_of (j := 29) (by decide) (by decide) (by decide), ?_⟩
  refine ⟨sz 3 rfl (by decide), ?_⟩
  refine ⟨p, 3, _, rfl, hs5, by omega, by decide, by decide, ?_⟩
  intro x5 μ6 e0 e1 hs6 k6
  refine pickL [9, 300, 10 ^ (29 : Int).toNat] (fun v => 1 ≤ v ∧ v ≤ 10 ^ 29) μ6 e0 e1 ?_ fun f hf => ?_
  · intro v hv
    simp only [List.mem_cons, List.not_mem_nil, or_false] at hv
    rcases hv with z | z | z <;> subst z <;> decide
  refine ⟨p, f, _, rfl, hs6, by omega, by omega, by omega, ?_⟩
  intro g μ7 g0 g1 hs7 k7
  obtain ⟨w, rfl⟩ := Int.eq_ofNat_of_zero_le (show 0 ≤ w by omega)
  obtain ⟨b, rfl⟩ := Int.eq_ofNat_of_zero_le (show 0 ≤ b by omega)
  obtain ⟨L, hL⟩ := Int.eq_ofNat_of_zero_le (show 0 ≤ 1 + g by omega)
  have go := ok_win1 (A := A) (w := w) (b := b) (L := L) (e := e) (x2 := some (.lst [.int (1 + x1), .int 32, .int 64, .int (1 + x2), .int 4096, .int (201 + x3)]))
    (E := { endsD q with nx := fun δ μ => dSeq (win2 A e) (tailR A e) (endsD q) δ μ }) hs7 (by omega) (by omega) (by omega) (by omega) (by omega) (by omega)
    (fun μ8 y5 y6 y7 hs8 k8 => ok_win2 (E := { endsD q with nx := fun δ μ => tailR A e (endsD q) δ μ }) hs8 (by omega) (by omega) (by omega) (by omega) (by omega) (by omega)
      fun z5 => ok_tail hs8 (by omega) (by omega) (by omega) (by omega) (by omega) (by omega) (by omega) fun μ9 hs9 k9 =>
        ⟨μ9, Sub.refl _, h μ9 (hs9.le (by omega)) ((((((((k1.trans k2).trans k3).trans k4).trans k5).trans k6).trans k7).trans k8).trans k9)⟩)
  rw [show nD L = D.int (1 + g) by rw [hL]] at go
  exact go
def c_law (A : Cls) : DSp := spLawD
theorem len_law {A : Cls} : ∀ ds μ q e, c_law A ds μ q e → ds.length = 1 := fun ds μ q e ⟨_, h, _⟩ => by rw [h]; rfl
theorem law_end : LLis 4 8 8 (.int 9) ∧ LLis 9 8 1 .non ∧ (((cm (mk 4 8) 8 (15 + 1) : Nat) : Int) - ((cm (mk 4 8) 8 8 : Nat) : Int) = 6) := by
  refine ⟨.inr ⟨9, rfl, by decide, by decide, fun y h1 h2 => ?_⟩, .inl ⟨by decide, rfl⟩, by decide⟩
  obtain rfl : y = 8 := by omega
  decide
theorem ok_law {A : Cls} : ∀ ds μ q e, c_law A ds μ q e → rd_law A (c__law_pool A) (c__law_right A) (c_count_lengths A) (c_least_length A) e (endsD q) (startD 4 ds) μ := by
  rintro ds μ q e ⟨ns, rfl, hl, h⟩
  refine ⟨fun i δ μ' => ∃ x2 x3, δ = [some (.rol (ns.map D.int)), (if i = 0 then none else some (.int (0 + ((i - 1 : Nat) : Int)))), x2, x3], ⟨none, none, rfl⟩, fun _ _ _ _ _ => trivial, ?_, ?_⟩
  · rintro i d δ μ' hi ⟨x2, x3, rfl⟩
    obtain ⟨hn, rfl⟩ := ints_get hi
    have hi2 : i < 64 := by
      have : (if (if (((ns.map D.int).length : Nat) : Int) < 6 then (((ns.map D.int).length : Nat) : Int) else 6) > 1 then (if (((ns.map D.int).length : Nat) : Int) < 6 then (((ns.map D.int).length : Nat) : Int) else 6) else 1) ≤ (63 : Int) := by
        rw [List.length_map]
        split <;> split <;> omega
      have hn := hn
      generalize (if (if (((ns.map D.int).length : Nat) : Int) < 6 then (((ns.map D.int).length : Nat) : Int) else 6) > 1 then (if (((ns.map D.int).length : Nat) : Int) < 6 then (((ns.map D.int).length : Nat) : Int) else 6) else 1) = z at this hn
      omega
    have hz : (0 : Int) + (i : Int) = (i : Int) := by omega
    rw [hz]
    refine ⟨ns, i, rfl, by omega, hl, fun p μ1 hp hs k => ?_⟩
    refine ⟨fun j δ μ' => ∃ x3, δ = [some (.rol (ns.map D.int)), some (.int (i : Int)), some (.adr p), x3] ∧ Src p μ' (20 * j), ⟨_, rfl, hs.le (by decide)⟩, fun _ _ _ _ _ => trivial, ?_, ?_⟩
    · rintro j d δ μ2 hj ⟨x3, rfl, hs2⟩
      have hj3 := (ints_get hj).1
      have hj4 : j < 3 := hj3
      refine ⟨p, _, rfl, hs2, by omega, fun μ3 hs3 k3 => ?_⟩
      exact ⟨_, rfl, hs3.le (by omega)⟩
    · rintro δ μ2 ⟨x3, rfl, hs2⟩
      refine ⟨some (.adr p), x3, ?_⟩
      rw [if_neg (by omega), show i + 1 - 1 = i by omega, hz]
  · rintro δ μ' ⟨x2, x3, rfl⟩
    obtain ⟨h1, h2, h3⟩ := law_end
    refine ⟨4, 8, 8, rfl, by decide, by decide, by decide, by decide, by decide, by decide, fun r1 hr1 => ?_⟩
    refine ⟨4, 8, 8, 15, rfl, by decide, by decide, by decide, by decide, by decide, by decide, by decide, ?_⟩
    rw [h3]
    refine ⟨9, 8, 1, rfl, by decide, by decide, by decide, by decide, by decide, by decide, fun r2 hr2 => ?_⟩
    obtain rfl := hr1.uniq (by decide) h1
    obtain rfl := hr2.uniq (by decide) h2
    refine ⟨sz 3 rfl (by decide), sz 3 rfl (by decide), rfl, rfl, ?_⟩
    exact fin (h μ') (congrArg D.bl (eqD_refl (k := 64) rfl))
end Law

namespace Law
open PySem L2 DL
def top (i : Nat) : Stmt := PySem.Challenge.pw_stridelanes_k47_lengths_without_conflict.main.body.getD i (.Pass ⟨0, 0, 0, 0⟩)
structure Glob (w : World) (K : PySem.W.Frag) (mg : Str → Option Value) (A : Cls) (fI : Addr) : Prop where
  e_InvalidNumber : PySem.ErrX.ErrTxt K mg "InvalidNumber" A.InvalidNumber fI
  z_abs : mg "abs" = none
  m_gcd : mg "gcd" = some (.builtin "math.gcd")
  m_isqrt : mg "isqrt" = some (.builtin "math.isqrt")
  z_len : mg "len" = none
  z_max : mg "max" = none
  z_min : mg "min" = none
  z_range : mg "range" = none
  z_set : mg "set" = none
  z_sum : mg "sum" = none
  g_MOST_BANKS : ∃ t, mg "MOST_BANKS" = some (.int 4096 t)
  g_MOST_LANES : ∃ t, mg "MOST_LANES" = some (.int 32 t)
  triv : True
abbrev s_check_wave : Stmt := top 6
abbrev sc_N_check_wave : List Str := ["wave"]
theorem sc_check_wave : FnScope ["wave"] ["wave"] (defScope s_check_wave) := ⟨rfl, rfl, rfl, by decide +kernel, rfl, by decide +kernel, by decide +kernel⟩
theorem fd_check_wave {P : Program} {w : World} {K : PySem.W.Frag} {mg : Str → Option Value} {base : Heap} {A : Cls} {fI f : Addr} {fd : FuncData} (T : Glob w K mg A fI) (F : Fun K "check_wave" "check_wave" s_check_wave f fd) : FnG P w K mg base 1 f fd ["wave"] (LSp K (c_check_wave A)) :=
  fnD_of (t := fun e => rd_check_wave A e) F sc_check_wave rfl len_check_wave (fun cdv A0 outer s H E O e C tk ow => ((dss_one (ds_if (PW.pt (dw_or (dt_cmp op_lt od_lt (dv 0) de_int (nomark _)) (dw_or1 (dt_cmp op_gt od_gt (dv 0) (de_gint rfl T.g_MOST_LANES) (nomark _))))) (dss_one (ds_raise rfl T.e_InvalidNumber C.room tk (dv 0))) dss_nil)))) ok_check_wave
theorem dh_check_wave {P : Program} {w : World} {K : PySem.W.Frag} {mg : Str → Option Value} {base : Heap} {A : Cls} {fI f : Addr} {fd : FuncData} (T : Glob w K mg A fI) (F : Fun K "check_wave" "check_wave" s_check_wave f fd) (hm : mg "check_wave" = some (.ref f)) : Fd P w K mg base "check_wave" 1 ["wave"] (c_check_wave A) := by
  exact ⟨_, _, (fd_check_wave T F), hm, F.kp, F.binds fun _ _ _ _ _ _ us hl => match us, hl with | [_], _ => rfl⟩
abbrev s_check_banks : Stmt := top 9
abbrev sc_N_check_banks : List Str := ["banks"]
theorem sc_check_banks : FnScope ["banks"] ["banks"] (defScope s_check_banks) := ⟨rfl, rfl, rfl, by decide +kernel, rfl, by decide +kernel, by decide +kernel⟩
theorem fd_check_banks {P : Program} {w : World} {K : PySem.W.Frag} {mg : Str → Option Value} {base : Heap} {A : Cls} {fI f : Addr} {fd : FuncData} (T : Glob w K mg A fI) (F : Fun K "check_banks" "check_banks" s_check_banks f fd) : FnG P w K mg base 1 f fd ["banks"] (LSp K (c_check_banks A)) :=
  fnD_of (t := fun e => rd_check_banks A e) F sc_check_banks rfl len_check_banks (fun cdv A0 outer s H E O e C tk ow => ((dss_one (ds_if (PW.pt (dw_or (dt_cmp op_lt od_lt (dv 0) de_int (nomark _)) (dw_or1 (dt_cmp op_gt od_gt (dv 0) (de_gint rfl T.g_MOST_BANKS) (nomark _))))) (dss_one (ds_raise rfl T.e_InvalidNumber C.room tk (dv 0))) dss_nil)))) ok_check_banks
theorem dh_check_banks {P : Program} {w : World} {K : PySem.W.Frag} {mg : Str → Option Value} {base : Heap} {A : Cls} {fI f : Addr} {fd : FuncData} (T : Glob w K mg A fI) (F : Fun K "check_banks" "check_banks" s_check_banks f fd) (hm : mg "check_banks" = some (.ref f)) : Fd P w K mg base "check_banks" 1 ["banks"] (c_check_banks A) := by
  exact ⟨_, _, (fd_check_banks T F), hm, F.kp, F.binds fun _ _ _ _ _ _ us hl => match us, hl with | [_], _ => rfl⟩
abbrev s_check_length : Stmt := top 10
abbrev sc_N_check_length : List Str := ["length"]
theorem sc_check_length : FnScope ["length"] ["length"] (defScope s_check_length) := ⟨rfl, rfl, rfl, by decide +kernel, rfl, by decide +kernel, by decide +kernel⟩
theorem fd_check_length {P : Program} {w : World} {K : PySem.W.Frag} {mg : Str → Option Value} {base : Heap} {A : Cls} {fI f : Addr} {fd : FuncData} (T : Glob w K mg A fI) (F : Fun K "check_length" "check_length" s_check_length f fd) : FnG P w K mg base 1 f fd ["length"] (LSp K (c_check_length A)) :=
  fnD_of (t := fun e => rd_check_length A e) F sc_check_length rfl len_check_length (fun cdv A0 outer s H E O e C tk ow => ((dss_one (ds_if (dt_cmp op_lt od_lt (dv 0) de_int (nomark _)) (dss_one (ds_raise rfl T.e_InvalidNumber C.room tk (dv 0))) dss_nil)))) ok_check_length
theorem dh_check_length {P : Program} {w : World} {K : PySem.W.Frag} {mg : Str → Option Value} {base : Heap} {A : Cls} {fI f : Addr} {fd : FuncData} (T : Glob w K mg A fI) (F : Fun K "check_length" "check_length" s_check_length f fd) (hm : mg "check_length" = some (.ref f)) : Fd P w K mg base "check_length" 1 ["length"] (c_check_length A) := by
  exact ⟨_, _, (fd_check_length T F), hm, F.kp, F.binds fun _ _ _ _ _ _ us hl => match us, hl with | [_], _ => rfl⟩
abbrev s_divisors : Stmt := top 11
abbrev sc_N_divisors : List Str := ["number", "small", "divisor"]
theorem sc_divisors : FnScope ["number", "small", "divisor"] ["number"] (defScope s_divisors) := ⟨rfl, rfl, rfl, by decide +kernel, rfl, by decide +kernel, by decide +kernel⟩
theorem fd_divisors {P : Program} {w : World} {K : PySem.W.Frag} {mg : Str → Option Value} {base : Heap} {A : Cls} {fI f : Addr} {fd : FuncData} (T : Glob w K mg A fI) (F : Fun K "divisors" "divisors" s_divisors f fd) : FnG P w K mg base 1 f fd ["number"] (LSp K (c_divisors A)) :=
  fnD_of (t := fun e => rd_divisors A e) F sc_divisors rfl len_divisors (fun cdv A0 outer s H E O e C tk ow => ((dss_cons (ds_setLc (i := 1) rfl sc_divisors.nd rfl rfl (sw_true rfl rfl rfl (by decide +kernel)) (di_rw2 rfl T.z_range (da_cons de_int (da_cons (de_add (de_callFun (id := "math.isqrt") (pe_callBfun cr_isq rfl T.m_isqrt (da_cons (dv 0) da_nil)) cd_isq) de_int) da_nil))) (blkOk_by (show blkC sc_N_divisors (defScope s_divisors) _ [("divisor", 2)] = true from by decide +kernel)) (by decide) (fun _ _ _ _ _ => (dg_name (i := 2) sc_divisors.nd rfl (Or.inl rfl))) (fun _ _ _ _ _ => (dts_one (dt_cmp (op_eqA C.room.units) od_eqA (de_mod (dv 0) (dv 2)) de_int (nomark _)))) (fun _ _ _ _ _ => (dv 2)) (own := [("divisor", 2)]))
    (dss_one (ds_ret (de_add (dv 1) (de_lc rfl sc_divisors.nd (di_sq (de_revL (dv 1))) (blkOk_by (show blkC sc_N_divisors (defScope s_divisors) _ [("divisor", 2)] = true from by decide +kernel)) (by decide) (fun _ _ _ _ _ => (dg_name (i := 2) sc_divisors.nd rfl (Or.inl rfl))) (fun _ _ _ _ _ => (dts_one (dt_cmp (op_neA C.room.units) od_neA (de_mul (dv 2) (dv 2)) (dv 0) (nomark _)))) (fun _ _ _ _ _ => (de_fdiv (dv 0) (dv 2))) (own := [("divisor", 2)])))))))) ok_divisors
theorem dh_divisors {P : Program} {w : World} {K : PySem.W.Frag} {mg : Str → Option Value} {base : Heap} {A : Cls} {fI f : Addr} {fd : FuncData} (T : Glob w K mg A fI) (F : Fun K "divisors" "divisors" s_divisors f fd) (hm : mg "divisors" = some (.ref f)) : Fd P w K mg base "divisors" 1 ["number"] (c_divisors A) := by
  exact ⟨_, _, (fd_divisors T F), hm, F.kp, F.binds fun _ _ _ _ _ _ us hl => match us, hl with | [_], _ => rfl⟩
abbrev s_is_free_length : Stmt := top 12
abbrev sc_N_is_free_length : List Str := ["wave", "banks", "length"]
theorem sc_is_free_length : FnScope ["wave", "banks", "length"] ["wave", "banks", "length"] (defScope s_is_free_length) := ⟨rfl, rfl, rfl, by decide +kernel, rfl, by decide +kernel, by decide +kernel⟩
theorem fd_is_free_length {P : Program} {w : World} {K : PySem.W.Frag} {mg : Str → Option Value} {base : Heap} {A : Cls} {fI f : Addr} {fd : FuncData} (T : Glob w K mg A fI) (F : Fun K "is_free_length" "is_free_length" s_is_free_length f fd) : FnG P w K mg base 1 f fd ["wave", "banks", "length"] (LSp K (c_is_free_length A)) :=
  fnD_of (t := fun e => rd_is_free_length A e) F sc_is_free_length rfl len_is_free_length (fun cdv A0 outer s H E O e C tk ow => ((dss_one (ds_ret (de_cmp op_leX od_leX (de_mul (dv 0) (de_callFun (id := "math.gcd") (pe_callBfun cr_gcd rfl T.m_gcd (da_cons (dv 2) (da_cons (dv 1) da_nil))) cd_gcd)) (dv 1) (nomark _)))))) ok_is_free_length
theorem dh_is_free_length {P : Program} {w : World} {K : PySem.W.Frag} {mg : Str → Option Value} {base : Heap} {A : Cls} {fI f : Addr} {fd : FuncData} (T : Glob w K mg A fI) (F : Fun K "is_free_length" "is_free_length" s_is_free_length f fd) (hm : mg "is_free_length" = some (.ref f)) : Fd P w K mg base "is_free_length" 1 ["wave", "banks", "length"] (c_is_free_length A) := by
  exact ⟨_, _, (fd_is_free_length T F), hm, F.kp, F.binds fun _ _ _ _ _ _ us hl => match us, hl with | [_, _, _], _ => rfl⟩
abbrev s_signed_divisors : Stmt := top 13
abbrev sc_N_signed_divisors : List Str := ["wave", "banks", "found", "divisor", "before", "wanted", "earlier", "times"]
theorem sc_signed_divisors : FnScope ["wave", "banks", "found", "divisor", "before", "wanted", "earlier", "times"] ["wave", "banks"] (defScope s_signed_divisors) := ⟨rfl, rfl, rfl, by decide +kernel, rfl, by decide +kernel, by decide +kernel⟩
theorem fd_signed_divisors {P : Program} {w : World} {K : PySem.W.Frag} {mg : Str → Option Value} {base : Heap} {A : Cls} {fI f : Addr} {fd : FuncData} (T : Glob w K mg A fI) (h_divisors : Fd P w K mg base "divisors" 1 ["number"] (c_divisors A)) (h_is_free_length : Fd P w K mg base "is_free_length" 1 ["wave", "banks", "length"] (c_is_free_length A)) (F : Fun K "signed_divisors" "signed_divisors" s_signed_divisors f fd) : FnG P w K mg base 2 f fd ["wave", "banks"] (LSp K (c_signed_divisors A)) :=
  fnD_of (t := fun e => rd_signed_divisors A (c_divisors A) (c_is_free_length A) e) F sc_signed_divisors rfl len_signed_divisors (fun cdv A0 outer s H E O e C tk ow => ((dss_cons (ds_asg (de_lstM da_nil) (dg_name (i := 2) sc_signed_divisors.nd rfl (Or.inl rfl)))
    (dss_cons (ds_for ow rfl (di_sq (de_callF h_divisors (C.room.mono (by decide)) C.gd C.px rfl (da_cons (dv 1) da_nil))) (dg_name (i := 3) sc_signed_divisors.nd rfl (Or.inr rfl)) (dss_cons (ds_asg (de_callB (cr_sum rfl) cd_sum rfl T.z_sum (by decide +kernel) (da_cons (de_lc rfl sc_signed_divisors.nd (di_sq (dv 2)) (blkOk_by (show blkC sc_N_signed_divisors (defScope s_signed_divisors) _ [("earlier", 6), ("times", 7)] = true from by decide +kernel)) (by decide) (fun _ _ _ _ _ => (dg_tup rfl (dgs_cons (dg_name (i := 6) sc_signed_divisors.nd rfl (Or.inl rfl)) (dgs_cons (dg_name (i := 7) sc_signed_divisors.nd rfl (Or.inl rfl)) dgs_nil)))) (fun _ _ _ _ _ => (dts_one (dt_cmp (op_eqA C.room.units) od_eqA (de_mod (dv 3) (dv 6)) de_int (nomark _)))) (fun _ _ _ _ _ => (dv 7)) (own := [("earlier", 6), ("times", 7)])) da_nil)) (dg_name (i := 4) sc_signed_divisors.nd rfl (Or.inl rfl)))
    (dss_cons (ds_asg (de_if (dt_truth (de_callF h_is_free_length (C.room.mono (by decide)) C.gd C.px rfl (da_cons (dv 0) (da_cons (dv 1) (da_cons (dv 3) da_nil))))) de_int de_int) (dg_name (i := 5) sc_signed_divisors.nd rfl (Or.inl rfl)))
    (dss_one (ds_if (dt_cmp (op_neA C.room.units) od_neA (dv 4) (dv 5) (nomark _)) (dss_one (ds_expr (de_append (pe_bm PySem.F.plainAttrs_list PySem.F.slot_list_append PySem.F.type_list_append mt_append (dv 2) (pa_cons (de_tup (da_cons (dv 3) (da_cons (de_sub (dv 5) (dv 4)) da_nil))) pa_nil))))) dss_nil)))))
    (dss_one (ds_ret (dvF 2))))))) ok_signed_divisors
theorem dh_signed_divisors {P : Program} {w : World} {K : PySem.W.Frag} {mg : Str → Option Value} {base : Heap} {A : Cls} {fI f : Addr} {fd : FuncData} (T : Glob w K mg A fI) (h_divisors : Fd P w K mg base "divisors" 1 ["number"] (c_divisors A)) (h_is_free_length : Fd P w K mg base "is_free_length" 1 ["wave", "banks", "length"] (c_is_free_length A)) (F : Fun K "signed_divisors" "signed_divisors" s_signed_divisors f fd) (hm : mg "signed_divisors" = some (.ref f)) : Fd P w K mg base "signed_divisors" 2 ["wave", "banks"] (c_signed_divisors A) := by
  exact ⟨_, _, (fd_signed_divisors T h_divisors h_is_free_length F), hm, F.kp, F.binds fun _ _ _ _ _ _ us hl => match us, hl with | [_, _], _ => rfl⟩
abbrev s_least_length : Stmt := top 14
abbrev sc_N_least_length : List Str := ["wave", "banks", "length", "found"]
theorem sc_least_length : FnScope ["wave", "banks", "length", "found"] ["wave", "banks", "length"] (defScope s_least_length) := ⟨rfl, rfl, rfl, by decide +kernel, rfl, by decide +kernel, by decide +kernel⟩
theorem fd_least_length {P : Program} {w : World} {K : PySem.W.Frag} {mg : Str → Option Value} {base : Heap} {A : Cls} {fI f : Addr} {fd : FuncData} (T : Glob w K mg A fI) (h_check_banks : Fd P w K mg base "check_banks" 1 ["banks"] (c_check_banks A)) (h_check_length : Fd P w K mg base "check_length" 1 ["length"] (c_check_length A)) (h_check_wave : Fd P w K mg base "check_wave" 1 ["wave"] (c_check_wave A)) (h_is_free_length : Fd P w K mg base "is_free_length" 1 ["wave", "banks", "length"] (c_is_free_length A)) (F : Fun K "least_length" "least_length" s_least_length f fd) : FnG P w K mg base 2 f fd ["wave", "banks", "length"] (LSp K (c_least_length A)) :=
  fnD_of (t := fun e => rd_least_length A (c_check_banks A) (c_check_length A) (c_check_wave A) (c_is_free_length A) e) F sc_least_length rfl len_least_length (fun cdv A0 outer s H E O e C tk ow => ((dss_cons (ds_expr (de_callF h_check_wave (C.room.mono (by decide)) C.gd C.px rfl (da_cons (dv 0) da_nil)))
    (dss_cons (ds_expr (de_callF h_check_banks (C.room.mono (by decide)) C.gd C.px rfl (da_cons (dv 1) da_nil)))
    (dss_cons (ds_expr (de_callF h_check_length (C.room.mono (by decide)) C.gd C.px rfl (da_cons (dv 2) da_nil)))
    (dss_cons (ds_if (dt_cmp op_gt od_gt (dv 0) (dv 1) (nomark _)) (dss_one (ds_ret de_non)) dss_nil)
    (dss_cons (ds_asg (dv 2) (dg_name (i := 3) sc_least_length.nd rfl (Or.inl rfl)))
    (dss_cons (ds_while ow (dt_not (dt_truth (de_callF h_is_free_length (C.room.mono (by decide)) C.gd C.px rfl (da_cons (dv 0) (da_cons (dv 1) (da_cons (dv 3) da_nil)))))) (dss_one (ds_aug (i := 3) sc_least_length.nd rfl (Or.inl rfl) de_int ip_add)))
    (dss_one (ds_ret (dv 3))))))))))) ok_least_length
theorem dh_least_length {P : Program} {w : World} {K : PySem.W.Frag} {mg : Str → Option Value} {base : Heap} {A : Cls} {fI f : Addr} {fd : FuncData} (T : Glob w K mg A fI) (h_check_banks : Fd P w K mg base "check_banks" 1 ["banks"] (c_check_banks A)) (h_check_length : Fd P w K mg base "check_length" 1 ["length"] (c_check_length A)) (h_check_wave : Fd P w K mg base "check_wave" 1 ["wave"] (c_check_wave A)) (h_is_free_length : Fd P w K mg base "is_free_length" 1 ["wave", "banks", "length"] (c_is_free_length A)) (F : Fun K "least_length" "least_length" s_least_length f fd) (hm : mg "least_length" = some (.ref f)) : Fd P w K mg base "least_length" 2 ["wave", "banks", "length"] (c_least_length A) := by
  exact ⟨_, _, (fd_least_length T h_check_banks h_check_length h_check_wave h_is_free_length F), hm, F.kp, F.binds fun _ _ _ _ _ _ us hl => match us, hl with | [_, _, _], _ => rfl⟩
theorem dhk_least_length_0 {P : Program} {w : World} {K : PySem.W.Frag} {mg : Str → Option Value} {base : Heap} {A : Cls} {fI f : Addr} {fd : FuncData} (T : Glob w K mg A fI) (h_check_banks : Fd P w K mg base "check_banks" 1 ["banks"] (c_check_banks A)) (h_check_length : Fd P w K mg base "check_length" 1 ["length"] (c_check_length A)) (h_check_wave : Fd P w K mg base "check_wave" 1 ["wave"] (c_check_wave A)) (h_is_free_length : Fd P w K mg base "is_free_length" 1 ["wave", "banks", "length"] (c_is_free_length A)) (F : Fun K "least_length" "least_length" s_least_length f fd) (hm : mg "least_length" = some (.ref f)) : FdX P w K mg base "least_length" 2 ["wave", "banks", "length"] (c_least_length A) ["length", "banks", "wave"] 0 [2, 1, 0] [] := by
  exact ⟨_, _, [], [], (fd_least_length T h_check_banks h_check_length h_check_wave h_is_free_length F), hm, F.kp, kwx_of F fun _ _ _ _ _ _ us ws h1 h2 => (match us, ws, h1, h2 with | [], [_, _, _], _, _ => rfl), .nil, fun _ _ => RepL.nil⟩
abbrev s_count_lengths : Stmt := top 15
abbrev sc_N_count_lengths : List Str := ["wave", "banks", "low", "high", "ahead", "divisor", "times"]
theorem sc_count_lengths : FnScope ["wave", "banks", "low", "high", "ahead", "divisor", "times"] ["wave", "banks", "low", "high"] (defScope s_count_lengths) := ⟨rfl, rfl, rfl, by decide +kernel, rfl, by decide +kernel, by decide +kernel⟩
theorem fd_count_lengths {P : Program} {w : World} {K : PySem.W.Frag} {mg : Str → Option Value} {base : Heap} {A : Cls} {fI f : Addr} {fd : FuncData} (T : Glob w K mg A fI) (h_check_banks : Fd P w K mg base "check_banks" 1 ["banks"] (c_check_banks A)) (h_check_length : Fd P w K mg base "check_length" 1 ["length"] (c_check_length A)) (h_check_wave : Fd P w K mg base "check_wave" 1 ["wave"] (c_check_wave A)) (h_signed_divisors : Fd P w K mg base "signed_divisors" 2 ["wave", "banks"] (c_signed_divisors A)) (F : Fun K "count_lengths" "count_lengths" s_count_lengths f fd) : FnG P w K mg base 3 f fd ["wave", "banks", "low", "high"] (LSp K (c_count_lengths A)) :=
  fnD_of (t := fun e => rd_count_lengths A (c_check_banks A) (c_check_length A) (c_check_wave A) (c_signed_divisors A) e) F sc_count_lengths rfl len_count_lengths (fun cdv A0 outer s H E O e C tk ow => ((dss_cons (ds_expr (de_callF h_check_wave (C.room.mono (by decide)) C.gd C.px rfl (da_cons (dv 0) da_nil)))
    (dss_cons (ds_expr (de_callF h_check_banks (C.room.mono (by decide)) C.gd C.px rfl (da_cons (dv 1) da_nil)))
    (dss_cons (ds_expr (de_callF h_check_length (C.room.mono (by decide)) C.gd C.px rfl (da_cons (dv 2) da_nil)))
    (dss_cons (ds_if (dt_cmp op_lt od_lt (dv 3) (dv 2) (nomark _)) (dss_one (ds_raise rfl T.e_InvalidNumber C.room tk (dv 3))) dss_nil)
    (dss_cons (ds_asg (de_sub (dv 2) de_int) (dg_name (i := 4) sc_count_lengths.nd rfl (Or.inr rfl)))
    (dss_one (ds_ret (de_callB (cr_sum rfl) cd_sum rfl T.z_sum (by decide +kernel) (da_cons (de_lc rfl sc_count_lengths.nd (di_sq (de_callF h_signed_divisors (C.room.mono (by decide)) C.gd C.px rfl (da_cons (dv 0) (da_cons (dv 1) da_nil)))) (blkOk_by (show blkC sc_N_count_lengths (defScope s_count_lengths) _ [("divisor", 5), ("times", 6)] = true from by decide +kernel)) (by decide) (fun _ _ _ _ _ => (dg_tup rfl (dgs_cons (dg_name (i := 5) sc_count_lengths.nd rfl (Or.inl rfl)) (dgs_cons (dg_name (i := 6) sc_count_lengths.nd rfl (Or.inl rfl)) dgs_nil)))) (fun _ _ _ _ _ => dts_nil) (fun _ _ _ _ _ => (de_mul (dv 6) (de_sub (de_fdiv (dv 3) (dv 5)) (de_fdiv (dv 4) (dv 5))))) (own := [("divisor", 5), ("times", 6)])) da_nil))))))))))) ok_count_lengths
theorem dh_count_lengths {P : Program} {w : World} {K : PySem.W.Frag} {mg : Str → Option Value} {base : Heap} {A : Cls} {fI f : Addr} {fd : FuncData} (T : Glob w K mg A fI) (h_check_banks : Fd P w K mg base "check_banks" 1 ["banks"] (c_check_banks A)) (h_check_length : Fd P w K mg base "check_length" 1 ["length"] (c_check_length A)) (h_check_wave : Fd P w K mg base "check_wave" 1 ["wave"] (c_check_wave A)) (h_signed_divisors : Fd P w K mg base "signed_divisors" 2 ["wave", "banks"] (c_signed_divisors A)) (F : Fun K "count_lengths" "count_lengths" s_count_lengths f fd) (hm : mg "count_lengths" = some (.ref f)) : Fd P w K mg base "count_lengths" 3 ["wave", "banks", "low", "high"] (c_count_lengths A) := by
  exact ⟨_, _, (fd_count_lengths T h_check_banks h_check_length h_check_wave h_signed_divisors F), hm, F.kp, F.binds fun _ _ _ _ _ _ us hl => match us, hl with | [_, _, _, _], _ => rfl⟩
theorem dhk_count_lengths_1 {P : Program} {w : World} {K : PySem.W.Frag} {mg : Str → Option Value} {base : Heap} {A : Cls} {fI f : Addr} {fd : FuncData} (T : Glob w K mg A fI) (h_check_banks : Fd P w K mg base "check_banks" 1 ["banks"] (c_check_banks A)) (h_check_length : Fd P w K mg base "check_length" 1 ["length"] (c_check_length A)) (h_check_wave : Fd P w K mg base "check_wave" 1 ["wave"] (c_check_wave A)) (h_signed_divisors : Fd P w K mg base "signed_divisors" 2 ["wave", "banks"] (c_signed_divisors A)) (F : Fun K "count_lengths" "count_lengths" s_count_lengths f fd) (hm : mg "count_lengths" = some (.ref f)) : FdX P w K mg base "count_lengths" 3 ["wave", "banks", "low", "high"] (c_count_lengths A) ["high", "low", "banks", "wave"] 0 [3, 2, 1, 0] [] := by
  exact ⟨_, _, [], [], (fd_count_lengths T h_check_banks h_check_length h_check_wave h_signed_divisors F), hm, F.kp, kwx_of F fun _ _ _ _ _ _ us ws h1 h2 => (match us, ws, h1, h2 with | [], [_, _, _, _], _, _ => rfl), .nil, fun _ _ => RepL.nil⟩
abbrev s__law_pool : Stmt := top 17
abbrev sc_N__law_pool : List Str := ["script", "at", "taken"]
theorem sc__law_pool : FnScope ["script", "at", "taken"] ["script", "at"] (defScope s__law_pool) := ⟨rfl, rfl, rfl, by decide +kernel, rfl, by decide +kernel, by decide +kernel⟩
theorem fd__law_pool {P : Program} {w : World} {K : PySem.W.Frag} {mg : Str → Option Value} {base : Heap} {A : Cls} {fI f : Addr} {fd : FuncData} (T : Glob w K mg A fI) (F : Fun K "_law_pool" "_law_pool" s__law_pool f fd) : FnG P w K mg base 1 f fd ["script", "at"] (LSp K (c__law_pool A)) :=
  fnD_of (t := fun e => rd__law_pool A e) F sc__law_pool rfl len__law_pool (fun cdv A0 outer s H E O e C tk ow => ((dss_cons (ds_asg de_int (dg_name (i := 2) sc__law_pool.nd rfl (Or.inl rfl)))
    (dss_cons (ds_if (dt_cmp op_lt od_lt (dv 1) (de_callB call_len cd_len rfl T.z_len PySem.boot_len (da_cons (dv 0) da_nil)) (nomark _)) (dss_one (ds_asg (de_ix (dv 0) (dv 1)) (dg_name (i := 2) sc__law_pool.nd rfl (Or.inl rfl)))) dss_nil)
    (dss_one (ds_ret (de_lstM (da_cons (de_callB (call_max2 rfl) cd_max2 rfl T.z_max (by decide +kernel) (da_cons de_int (da_cons (de_sub (de_callB call_abs cd_abs rfl T.z_abs (by decide +kernel) (da_cons (dv 2) da_nil)) (de_pow de_int de_int)) da_nil))) (da_cons (de_add (de_mod (dv 2) de_int) (de_mul de_int (de_add (dv 1) de_int))) (da_cons de_int da_nil)))))))))) ok__law_pool
theorem dh__law_pool {P : Program} {w : World} {K : PySem.W.Frag} {mg : Str → Option Value} {base : Heap} {A : Cls} {fI f : Addr} {fd : FuncData} (T : Glob w K mg A fI) (F : Fun K "_law_pool" "_law_pool" s__law_pool f fd) (hm : mg "_law_pool" = some (.ref f)) : Fd P w K mg base "_law_pool" 1 ["script", "at"] (c__law_pool A) := by
  exact ⟨_, _, (fd__law_pool T F), hm, F.kp, F.binds fun _ _ _ _ _ _ us hl => match us, hl with | [_, _], _ => rfl⟩
abbrev s__law_draw : Stmt := top 18
abbrev sc_N__law_draw : List Str := ["pool", "many", "drawn", "mixed"]
theorem sc__law_draw : FnScope ["pool", "many", "drawn", "mixed"] ["pool", "many"] (defScope s__law_draw) := ⟨rfl, rfl, rfl, by decide +kernel, rfl, by decide +kernel, by decide +kernel⟩
theorem fd__law_draw {P : Program} {w : World} {K : PySem.W.Frag} {mg : Str → Option Value} {base : Heap} {A : Cls} {fI f : Addr} {fd : FuncData} (T : Glob w K mg A fI) (F : Fun K "_law_draw" "_law_draw" s__law_draw f fd) : FnG P w K mg base 1 f fd ["pool", "many"] (LSp K (c__law_draw A)) :=
  fnD_of (t := fun e => rd__law_draw A e) F sc__law_draw rfl len__law_draw (fun cdv A0 outer s H E O e C tk ow => ((dss_cons (ds_if (dt_cmp op_gt od_gt (de_ix (dv 0) de_int) de_int (nomark _)) (dss_cons (ds_asg (de_mod (de_ix (dv 0) de_int) (dv 1)) (dg_name (i := 2) sc__law_draw.nd rfl (Or.inl rfl)))
    (dss_cons (ds_asg (de_fdiv (de_ix (dv 0) de_int) (dv 1)) (dg_item (dv 0) de_int))
    (dss_one (ds_ret (dv 2))))) dss_nil)
    (dss_cons (ds_asg (de_add (de_ix (dv 0) de_int) de_int) (dg_item (dv 0) de_int))
    (dss_cons (ds_asg (de_mod (de_pow (de_add (de_ix (dv 0) de_int) (de_mul de_int (de_ix (dv 0) de_int))) de_int) de_int) (dg_name (i := 3) sc__law_draw.nd rfl (Or.inl rfl)))
    (dss_cons (ds_asg (de_mod (de_pow (de_add (dv 3) (de_mul de_int (de_ix (dv 0) de_int))) de_int) de_int) (dg_name (i := 3) sc__law_draw.nd rfl (Or.inl rfl)))
    (dss_one (ds_ret (de_mod (de_fdiv (dv 3) de_int) (dv 1)))))))))) ok__law_draw
theorem dh__law_draw {P : Program} {w : World} {K : PySem.W.Frag} {mg : Str → Option Value} {base : Heap} {A : Cls} {fI f : Addr} {fd : FuncData} (T : Glob w K mg A fI) (F : Fun K "_law_draw" "_law_draw" s__law_draw f fd) (hm : mg "_law_draw" = some (.ref f)) : Fd P w K mg base "_law_draw" 1 ["pool", "many"] (c__law_draw A) := by
  exact ⟨_, _, (fd__law_draw T F), hm, F.kp, F.binds fun _ _ _ _ _ _ us hl => match us, hl with | [_, _], _ => rfl⟩
abbrev s__law_span : Stmt := top 19
abbrev sc_N__law_span : List Str := ["pool"]
theorem sc__law_span : FnScope ["pool"] ["pool"] (defScope s__law_span) := ⟨rfl, rfl, rfl, by decide +kernel, rfl, by decide +kernel, by decide +kernel⟩
theorem fd__law_span {P : Program} {w : World} {K : PySem.W.Frag} {mg : Str → Option Value} {base : Heap} {A : Cls} {fI f : Addr} {fd : FuncData} (T : Glob w K mg A fI) (h__law_draw : Fd P w K mg base "_law_draw" 1 ["pool", "many"] (c__law_draw A)) (F : Fun K "_law_span" "_law_span" s__law_span f fd) : FnG P w K mg base 2 f fd ["pool"] (LSp K (c__law_span A)) :=
  fnD_of (t := fun e => rd__law_span A (c__law_draw A) e) F sc__law_span rfl len__law_span (fun cdv A0 outer s H E O e C tk ow => ((dss_one (ds_ret (de_ix (de_lst (da_cons de_int (da_cons de_int (da_cons de_int (da_cons de_int (da_cons de_int (da_cons de_int (da_cons de_int (da_cons de_int (da_cons de_int (da_cons (de_add de_int (de_callF h__law_draw (C.room.mono (by decide)) C.gd C.px rfl (da_cons (dv 0) (da_cons de_int da_nil)))) da_nil))))))))))) (de_callF h__law_draw (C.room.mono (by decide)) C.gd C.px rfl (da_cons (dv 0) (da_cons de_int da_nil)))))))) ok__law_span
theorem dh__law_span {P : Program} {w : World} {K : PySem.W.Frag} {mg : Str → Option Value} {base : Heap} {A : Cls} {fI f : Addr} {fd : FuncData} (T : Glob w K mg A fI) (h__law_draw : Fd P w K mg base "_law_draw" 1 ["pool", "many"] (c__law_draw A)) (F : Fun K "_law_span" "_law_span" s__law_span f fd) (hm : mg "_law_span" = some (.ref f)) : Fd P w K mg base "_law_span" 2 ["pool"] (c__law_span A) := by
  exact ⟨_, _, (fd__law_span T h__law_draw F), hm, F.kp, F.binds fun _ _ _ _ _ _ us hl => match us, hl with | [_], _ => rfl⟩
abbrev s__law_is_free : Stmt := top 20
abbrev sc_N__law_is_free : List Str := ["span", "many", "long", "lane"]
theorem sc__law_is_free : FnScope ["span", "many", "long", "lane"] ["span", "many", "long"] (defScope s__law_is_free) := ⟨rfl, rfl, rfl, by decide +kernel, rfl, by decide +kernel, by decide +kernel⟩
theorem fd__law_is_free {P : Program} {w : World} {K : PySem.W.Frag} {mg : Str → Option Value} {base : Heap} {A : Cls} {fI f : Addr} {fd : FuncData} (T : Glob w K mg A fI) (F : Fun K "_law_is_free" "_law_is_free" s__law_is_free f fd) : FnG P w K mg base 1 f fd ["span", "many", "long"] (LSp K (c__law_is_free A)) :=
  fnD_of (t := fun e => rd__law_is_free A e) F sc__law_is_free rfl len__law_is_free (fun cdv A0 outer s H E O e C tk ow => ((dss_one (ds_ret (de_cmp (op_eqA C.room.units) od_eqA (de_lenSet rfl T.z_len rfl T.z_set (de_lc rfl sc__law_is_free.nd (di_rw1 rfl T.z_range (da_cons (dv 0) da_nil)) (blkOk_by (show blkC sc_N__law_is_free (defScope s__law_is_free) _ [("lane", 3)] = true from by decide +kernel)) (by decide) (fun _ _ _ _ _ => (dg_name (i := 3) sc__law_is_free.nd rfl (Or.inl rfl))) (fun _ _ _ _ _ => dts_nil) (fun _ _ _ _ _ => (de_mod (de_mul (dv 2) (dv 3)) (dv 1))) (own := [("lane", 3)]))) (dv 0) (nomark _)))))) ok__law_is_free
theorem dh__law_is_free {P : Program} {w : World} {K : PySem.W.Frag} {mg : Str → Option Value} {base : Heap} {A : Cls} {fI f : Addr} {fd : FuncData} (T : Glob w K mg A fI) (F : Fun K "_law_is_free" "_law_is_free" s__law_is_free f fd) (hm : mg "_law_is_free" = some (.ref f)) : Fd P w K mg base "_law_is_free" 1 ["span", "many", "long"] (c__law_is_free A) := by
  exact ⟨_, _, (fd__law_is_free T F), hm, F.kp, F.binds fun _ _ _ _ _ _ us hl => match us, hl with | [_, _, _], _ => rfl⟩
abbrev s__law_right : Stmt := top 21
abbrev sc_N__law_right : List Str := ["pool", "span", "some", "many", "least", "near", "due", "told", "found", "cut", "last", "whole", "long"]
theorem sc__law_right : FnScope ["pool", "span", "some", "many", "least", "near", "due", "told", "found", "cut", "last", "whole", "long"] ["pool"] (defScope s__law_right) := ⟨rfl, rfl, rfl, by decide +kernel, rfl, by decide +kernel, by decide +kernel⟩
theorem fd__law_right {P : Program} {w : World} {K : PySem.W.Frag} {mg : Str → Option Value} {base : Heap} {A : Cls} {fI f : Addr} {fd : FuncData} (T : Glob w K mg A fI) (h__law_draw : Fd P w K mg base "_law_draw" 1 ["pool", "many"] (c__law_draw A)) (h__law_is_free : Fd P w K mg base "_law_is_free" 1 ["span", "many", "long"] (c__law_is_free A)) (h__law_span : Fd P w K mg base "_law_span" 2 ["pool"] (c__law_span A)) (h_count_lengths : Fd P w K mg base "count_lengths" 3 ["wave", "banks", "low", "high"] (c_count_lengths A)) (h_least_length : Fd P w K mg base "least_length" 2 ["wave", "banks", "length"] (c_least_length A)) (hk_count_lengths_1 : FdX P w K mg base "count_lengths" 3 ["wave", "banks", "low", "high"] (c_count_lengths A) ["high", "low", "banks", "wave"] 0 [3, 2, 1, 0] []) (hk_least_length_0 : FdX P w K mg base "least_length" 2 ["wave", "banks", "length"] (c_least_length A) ["length", "banks", "wave"] 0 [2, 1, 0] []) (F : Fun K "_law_right" "_law_right" s__law_right f fd) : FnG P w K mg base 4 f fd ["pool"] (LSp K (c__law_right A)) :=
  fnD_of (t := fun e => rd__law_right A (c__law_draw A) (c__law_is_free A) (c__law_span A) (c_count_lengths A) (c_least_length A) e) F sc__law_right rfl len__law_right (fun cdv A0 outer s H E O e C tk ow => ((dss_cons (ds_asg (de_callF h__law_span (C.room.mono (by decide)) C.gd C.px rfl (da_cons (dv 0) da_nil)) (dg_name (i := 1) sc__law_right.nd rfl (Or.inr rfl)))
    (dss_cons (ds_asg (de_lst (da_cons (de_add de_int (de_callF h__law_draw (C.room.mono (by decide)) C.gd C.px rfl (da_cons (dv 0) (da_cons de_int da_nil)))) (da_cons de_int (da_cons de_int (da_cons (de_add de_int (de_callF h__law_draw (C.room.mono (by decide)) C.gd C.px rfl (da_cons (dv 0) (da_cons de_int da_nil)))) (da_cons de_int (da_cons (de_add de_int (de_callF h__law_draw (C.room.mono (by decide)) C.gd C.px rfl (da_cons (dv 0) (da_cons de_int da_nil)))) da_nil))))))) (dg_name (i := 2) sc__law_right.nd rfl (Or.inl rfl)))
    (dss_cons (ds_asg (de_ix (dv 2) (de_callF h__law_draw (C.room.mono (by decide)) C.gd C.px rfl (da_cons (dv 0) (da_cons de_int da_nil)))) (dg_name (i := 3) sc__law_right.nd rfl (Or.inr rfl)))
    (dss_cons (ds_asg (de_add de_int (de_callF h__law_draw (C.room.mono (by decide)) C.gd C.px rfl (da_cons (dv 0) (da_cons (de_ix (de_lst (da_cons de_int (da_cons de_int (da_cons (de_pow de_int de_int) da_nil)))) (de_callF h__law_draw (C.room.mono (by decide)) C.gd C.px rfl (da_cons (dv 0) (da_cons de_int da_nil)))) da_nil)))) (dg_name (i := 4) sc__law_right.nd rfl (Or.inl rfl)))
    (dss_cons (ds_if (dt_cmp op_lt od_lt (dv 3) de_int (nomark _)) (dss_cons (ds_setLc (i := 5) rfl sc__law_right.nd rfl rfl (sw_true rfl rfl rfl (by decide +kernel)) (di_rw2 rfl T.z_range (da_cons (dv 4) (da_cons (de_add (dv 4) (de_mul de_int (dv 3))) da_nil))) (blkOk_by (show blkC sc_N__law_right (defScope s__law_right) _ [("long", 12)] = true from by decide +kernel)) (by decide) (fun _ _ _ _ _ => (dg_name (i := 12) sc__law_right.nd rfl (Or.inl rfl))) (fun _ _ _ _ _ => (dts_one (dt_truth (de_callF h__law_is_free (C.room.mono (by decide)) C.gd passesN rfl (da_cons (dv 1) (da_cons (dv 3) (da_cons (dv 12) da_nil))))))) (fun _ _ _ _ _ => (dv 12)) (own := [("long", 12)]))
    (dss_cons (ds_asg (de_if (dt_cmp (op_neA C.room.units) od_neA (dv 5) (de_lst da_nil) (nomark _)) (de_ix (dv 5) de_int) de_non) (dg_name (i := 6) sc__law_right.nd rfl (Or.inl rfl)))
    (dss_cons (ds_if (dt_cmp (op_neA C.room.units) od_neA (de_lst (da_cons (de_callF h_least_length (C.room.mono (by decide)) C.gd C.px rfl (da_cons (dv 1) (da_cons (dv 3) (da_cons (dv 4) da_nil)))) (da_cons (de_callFX0 (x := "least_length") hk_least_length_0 (C.room.mono (by decide)) C.gd C.px rfl (dk_cons (dv 4) (dk_cons (dv 3) (dk_cons (dv 1) dk_nil)))) da_nil))) (de_lst (da_cons (dv 6) (da_cons (dv 6) da_nil))) (nomark _)) (dss_one (ds_ret de_bl)) dss_nil)
    (dss_cons (ds_asg (de_lstM (da_cons (de_callF h_count_lengths (C.room.mono (by decide)) C.gd C.px rfl (da_cons (dv 1) (da_cons (dv 3) (da_cons (dv 4) (da_cons (de_sub (de_add (dv 4) (de_mul de_int (dv 3))) de_int) da_nil))))) da_nil)) (dg_name (i := 7) sc__law_right.nd rfl (Or.inl rfl)))
    (dss_cons (ds_expr (de_append (pe_bm PySem.F.plainAttrs_list PySem.F.slot_list_append PySem.F.type_list_append mt_append (dv 7) (pa_cons (de_callFX0 (x := "count_lengths") hk_count_lengths_1 (C.room.mono (by decide)) C.gd C.px rfl (dk_cons (de_sub (de_add (dv 4) (de_mul de_int (dv 3))) de_int) (dk_cons (dv 4) (dk_cons (dv 3) (dk_cons (dv 1) dk_nil))))) pa_nil))))
    (dss_one (ds_if (PW.pt (dw_or (dt_cmp (op_neA C.room.units) od_neA (dv 7) (de_rep (de_lst (da_cons (de_callB call_len cd_len rfl T.z_len PySem.boot_len (da_cons (dv 5) da_nil)) da_nil)) de_int) (nomark _)) (dw_or1 (PW.pt (dw_and (dt_cmp (op_neA C.room.units) od_neA (dv 5) (de_lst da_nil) (nomark _)) (dw_and1 (dt_cmp (op_neA C.room.units) od_neA (de_callF h_count_lengths (C.room.mono (by decide)) C.gd C.px rfl (da_cons (dv 1) (da_cons (dv 3) (da_cons (dv 4) (da_cons (de_ix (dv 5) de_int) da_nil))))) de_int (nomark _)))))))) (dss_one (ds_ret de_bl)) dss_nil))))))) dss_nil)
    (dss_cons (ds_if (dt_cmp op_gt od_gt (dv 3) de_int (nomark _)) (dss_cons (ds_setLc (i := 5) rfl sc__law_right.nd rfl rfl (sw_true rfl rfl rfl (by decide +kernel)) (di_rw2 rfl T.z_range (da_cons (dv 4) (da_cons (de_add (dv 4) de_int) da_nil))) (blkOk_by (show blkC sc_N__law_right (defScope s__law_right) _ [("long", 12)] = true from by decide +kernel)) (by decide) (fun _ _ _ _ _ => (dg_name (i := 12) sc__law_right.nd rfl (Or.inl rfl))) (fun _ _ _ _ _ => (dts_one (dt_truth (de_callF h__law_is_free (C.room.mono (by decide)) C.gd passesN rfl (da_cons (dv 1) (da_cons (dv 3) (da_cons (dv 12) da_nil))))))) (fun _ _ _ _ _ => (dv 12)) (own := [("long", 12)]))
    (dss_cons (ds_if (PW.pt (dw_and (dt_cmp (op_neA C.room.units) od_neA (dv 5) (de_lst da_nil) (nomark _)) (dw_and1 (dt_cmp (op_neA C.room.units) od_neA (de_callF h_least_length (C.room.mono (by decide)) C.gd C.px rfl (da_cons (dv 1) (da_cons (dv 3) (da_cons (dv 4) da_nil)))) (de_ix (dv 5) de_int) (nomark _))))) (dss_one (ds_ret de_bl)) dss_nil)
    (dss_one (ds_if (dt_cmp (op_neA C.room.units) od_neA (de_callF h_count_lengths (C.room.mono (by decide)) C.gd C.px rfl (da_cons (dv 1) (da_cons (dv 3) (da_cons (dv 4) (da_cons (de_add (dv 4) de_int) da_nil))))) (de_callB call_len cd_len rfl T.z_len PySem.boot_len (da_cons (dv 5) da_nil)) (nomark _)) (dss_one (ds_ret de_bl)) dss_nil)))) dss_nil)
    (dss_cons (ds_asg (de_callF h_least_length (C.room.mono (by decide)) C.gd C.px rfl (da_cons (dv 1) (da_cons (dv 3) (da_cons (dv 4) da_nil)))) (dg_name (i := 8) sc__law_right.nd rfl (Or.inl rfl)))
    (dss_cons (ds_if (PW.pt (dw_or (dt_cmp (op_neA C.room.units) od_neA (de_cmp op_isN od_isN (dv 8) de_non (nomark _)) (de_cmp op_gt od_gt (dv 1) (dv 3) (nomark _)) (nomark _)) (dw_or1 (PW.pt (dw_and (dt_cmp op_notN od_notN (dv 8) de_non (nomark _)) (dw_and1 (dt_not (dt_truth (de_callF h__law_is_free (C.room.mono (by decide)) C.gd C.px rfl (da_cons (dv 1) (da_cons (dv 3) (da_cons (dv 8) da_nil)))))))))))) (dss_one (ds_ret de_bl)) dss_nil)
    (dss_cons (ds_par (i := 9) (j := 10) rfl sc__law_right.nd rfl rfl (by decide) rfl rfl (da_cons (de_add (dv 4) (de_callF h__law_draw (C.room.mono (by decide)) C.gd C.px rfl (da_cons (dv 0) (da_cons (de_pow de_int de_int) da_nil)))) (da_cons (de_add (de_add (dv 4) (de_pow de_int de_int)) (de_callF h__law_draw (C.room.mono (by decide)) C.gd C.px rfl (da_cons (dv 0) (da_cons (de_pow de_int de_int) da_nil)))) da_nil)))
    (dss_cons (ds_asg (de_callF h_count_lengths (C.room.mono (by decide)) C.gd C.px rfl (da_cons (dv 1) (da_cons (dv 3) (da_cons (dv 4) (da_cons (dv 10) da_nil))))) (dg_name (i := 11) sc__law_right.nd rfl (Or.inl rfl)))
    (dss_one (ds_ret (de_cmp (op_eqA C.room.units) od_eqA (de_add (de_callF h_count_lengths (C.room.mono (by decide)) C.gd C.px rfl (da_cons (dv 1) (da_cons (dv 3) (da_cons (dv 4) (da_cons (dv 9) da_nil))))) (de_callF h_count_lengths (C.room.mono (by decide)) C.gd C.px rfl (da_cons (dv 1) (da_cons (dv 3) (da_cons (de_add (dv 9) de_int) (da_cons (dv 10) da_nil)))))) (dv 11) (nomark _)))))))))))))))) ok__law_right
theorem dh__law_right {P : Program} {w : World} {K : PySem.W.Frag} {mg : Str → Option Value} {base : Heap} {A : Cls} {fI f : Addr} {fd : FuncData} (T : Glob w K mg A fI) (h__law_draw : Fd P w K mg base "_law_draw" 1 ["pool", "many"] (c__law_draw A)) (h__law_is_free : Fd P w K mg base "_law_is_free" 1 ["span", "many", "long"] (c__law_is_free A)) (h__law_span : Fd P w K mg base "_law_span" 2 ["pool"] (c__law_span A)) (h_count_lengths : Fd P w K mg base "count_lengths" 3 ["wave", "banks", "low", "high"] (c_count_lengths A)) (h_least_length : Fd P w K mg base "least_length" 2 ["wave", "banks", "length"] (c_least_length A)) (hk_count_lengths_1 : FdX P w K mg base "count_lengths" 3 ["wave", "banks", "low", "high"] (c_count_lengths A) ["high", "low", "banks", "wave"] 0 [3, 2, 1, 0] []) (hk_least_length_0 : FdX P w K mg base "least_length" 2 ["wave", "banks", "length"] (c_least_length A) ["length", "banks", "wave"] 0 [2, 1, 0] []) (F : Fun K "_law_right" "_law_right" s__law_right f fd) (hm : mg "_law_right" = some (.ref f)) : Fd P w K mg base "_law_right" 4 ["pool"] (c__law_right A) := by
  exact ⟨_, _, (fd__law_right T h__law_draw h__law_is_free h__law_span h_count_lengths h_least_length hk_count_lengths_1 hk_least_length_0 F), hm, F.kp, F.binds fun _ _ _ _ _ _ us hl => match us, hl with | [_], _ => rfl⟩
abbrev s_law : Stmt := top 22
abbrev sc_N_law : List Str := ["script", "at", "pool", "turn"]
theorem sc_law : FnScope ["script", "at", "pool", "turn"] ["script"] (defScope s_law) := ⟨rfl, rfl, rfl, by decide +kernel, rfl, by decide +kernel, by decide +kernel⟩
theorem fd_lawG {P : Program} {w : World} {K : PySem.W.Frag} {mg : Str → Option Value} {base : Heap} {A : Cls} {fI f : Addr} {fd : FuncData} (T : Glob w K mg A fI) (h__law_pool : Fd P w K mg base "_law_pool" 1 ["script", "at"] (c__law_pool A)) (h__law_right : Fd P w K mg base "_law_right" 4 ["pool"] (c__law_right A)) (h_count_lengths : Fd P w K mg base "count_lengths" 3 ["wave", "banks", "low", "high"] (c_count_lengths A)) (h_least_length : Fd P w K mg base "least_length" 2 ["wave", "banks", "length"] (c_least_length A)) (F : Fun K "law" "law" s_law f fd) : FnG P w K mg base 5 f fd ["script"] (LSp K (c_law A)) :=
  fnD_of (t := fun e => rd_law A (c__law_pool A) (c__law_right A) (c_count_lengths A) (c_least_length A) e) F sc_law rfl len_law (fun cdv A0 outer s H E O e C tk ow => ((dss_cons (ds_for ow rfl (di_rw1 rfl T.z_range (da_cons (de_callB (call_max2 rfl) cd_max2 rfl T.z_max (by decide +kernel) (da_cons de_int (da_cons (de_callB (call_min2 rfl) cd_min2 rfl T.z_min (by decide +kernel) (da_cons de_int (da_cons (de_callB call_len cd_len rfl T.z_len PySem.boot_len (da_cons (dv 0) da_nil)) da_nil))) da_nil))) da_nil)) (dg_name (i := 1) sc_law.nd rfl (Or.inl rfl)) (dss_cons (ds_asg (de_callF h__law_pool (C.room.mono (by decide)) C.gd C.px rfl (da_cons (dv 0) (da_cons (dv 1) da_nil))) (dg_name (i := 2) sc_law.nd rfl (Or.inl rfl)))
    (dss_one (ds_for ow rfl (di_rw1 rfl T.z_range (da_cons de_int da_nil)) (dg_name (i := 3) sc_law.nd rfl (Or.inl rfl)) (dss_one (ds_if (dt_not (dt_truth (de_callF h__law_right (C.room.mono (by decide)) C.gd C.px rfl (da_cons (dv 2) da_nil)))) (dss_one (ds_ret de_bl)) dss_nil))))))
    (dss_one (ds_ret (de_cmp (op_eqA C.room.units) od_eqA (de_lst (da_cons (de_callF h_least_length (C.room.mono (by decide)) C.gd C.px rfl (da_cons de_int (da_cons de_int (da_cons de_int da_nil)))) (da_cons (de_callF h_count_lengths (C.room.mono (by decide)) C.gd C.px rfl (da_cons de_int (da_cons de_int (da_cons de_int (da_cons de_int da_nil))))) (da_cons (de_callF h_least_length (C.room.mono (by decide)) C.gd C.px rfl (da_cons de_int (da_cons de_int (da_cons de_int da_nil)))) da_nil)))) (de_lst (da_cons de_int (da_cons de_int (da_cons de_non da_nil)))) (nomark _))))))) ok_law
theorem all_mk {l : PySem.W.OpenLaw} {w : World} {K : PySem.W.Frag} {h : Heap} {mg : Str → Option Value} {fa : Addr} (X : K.In h) (G : h.Ns mainGlobals mg) (hfa : mg "law" = some (.ref fa))
    {f0 : Addr} {od0 an0 : Option Addr} {sl0 : Array (Option Value)} {oc0 kV0 dc0 pm0 cd0 ct0 : Value} (a0 : PySem.W.nsIn K mainGlobals "check_wave" = some (some (.ref f0)))
    (l0 : K.lookup f0 = some ⟨oc0, od0, .func (PySem.W.fnOf "check_wave" "check_wave" (defArgs s_check_wave) (defBody s_check_wave) (defScope s_check_wave) .none kV0 dc0 pm0 an0 cd0 ct0), sl0⟩)
    (c0 : PySem.W.codeIn K cd0 "check_wave" = true)
    (k0 : PySem.W.keepIn K (.ref f0) = true)
    {f1 : Addr} {od1 an1 : Option Addr} {sl1 : Array (Option Value)} {oc1 kV1 dc1 pm1 cd1 ct1 : Value} (a1 : PySem.W.nsIn K mainGlobals "check_banks" = some (some (.ref f1)))
    (l1 : K.lookup f1 = some ⟨oc1, od1, .func (PySem.W.fnOf "check_banks" "check_banks" (defArgs s_check_banks) (defBody s_check_banks) (defScope s_check_banks) .none kV1 dc1 pm1 an1 cd1 ct1), sl1⟩)
    (c1 : PySem.W.codeIn K cd1 "check_banks" = true)
    (k1 : PySem.W.keepIn K (.ref f1) = true)
    {f2 : Addr} {od2 an2 : Option Addr} {sl2 : Array (Option Value)} {oc2 kV2 dc2 pm2 cd2 ct2 : Value} (a2 : PySem.W.nsIn K mainGlobals "check_length" = some (some (.ref f2)))
    (l2 : K.lookup f2 = some ⟨oc2, od2, .func (PySem.W.fnOf "check_length" "check_length" (defArgs s_check_length) (defBody s_check_length) (defScope s_check_length) .none kV2 dc2 pm2 an2 cd2 ct2), sl2⟩)
    (c2 : PySem.W.codeIn K cd2 "check_length" = true)
    (k2 : PySem.W.keepIn K (.ref f2) = true)
    {f3 : Addr} {od3 an3 : Option Addr} {sl3 : Array (Option Value)} {oc3 kV3 dc3 pm3 cd3 ct3 : Value} (a3 : PySem.W.nsIn K mainGlobals "divisors" = some (some (.ref f3)))
    (l3 : K.lookup f3 = some ⟨oc3, od3, .func (PySem.W.fnOf "divisors" "divisors" (defArgs s_divisors) (defBody s_divisors) (defScope s_divisors) .none kV3 dc3 pm3 an3 cd3 ct3), sl3⟩)
    (c3 : PySem.W.codeIn K cd3 "divisors" = true)
    (k3 : PySem.W.keepIn K (.ref f3) = true)
    {f4 : Addr} {od4 an4 : Option Addr} {sl4 : Array (Option Value)} {oc4 kV4 dc4 pm4 cd4 ct4 : Value} (a4 : PySem.W.nsIn K mainGlobals "is_free_length" = some (some (.ref f4)))
    (l4 : K.lookup f4 = some ⟨oc4, od4, .func (PySem.W.fnOf "is_free_length" "is_free_length" (defArgs s_is_free_length) (defBody s_is_free_length) (defScope s_is_free_length) .none kV4 dc4 pm4 an4 cd4 ct4), sl4⟩)
    (c4 : PySem.W.codeIn K cd4 "is_free_length" = true)
    (k4 : PySem.W.keepIn K (.ref f4) = true)
    {f5 : Addr} {od5 an5 : Option Addr} {sl5 : Array (Option Value)} {oc5 kV5 dc5 pm5 cd5 ct5 : Value} (a5 : PySem.W.nsIn K mainGlobals "signed_divisors" = some (some (.ref f5)))
    (l5 : K.lookup f5 = some ⟨oc5, od5, .func (PySem.W.fnOf "signed_divisors" "signed_divisors" (defArgs s_signed_divisors) (defBody s_signed_divisors) (defScope s_signed_divisors) .none kV5 dc5 pm5 an5 cd5 ct5), sl5⟩)
    (c5 : PySem.W.codeIn K cd5 "signed_divisors" = true)
    (k5 : PySem.W.keepIn K (.ref f5) = true)
    {f6 : Addr} {od6 an6 : Option Addr} {sl6 : Array (Option Value)} {oc6 kV6 dc6 pm6 cd6 ct6 : Value} (a6 : PySem.W.nsIn K mainGlobals "least_length" = some (some (.ref f6)))
    (l6 : K.lookup f6 = some ⟨oc6, od6, .func (PySem.W.fnOf "least_length" "least_length" (defArgs s_least_length) (defBody s_least_length) (defScope s_least_length) .none kV6 dc6 pm6 an6 cd6 ct6), sl6⟩)
    (c6 : PySem.W.codeIn K cd6 "least_length" = true)
    (k6 : PySem.W.keepIn K (.ref f6) = true)
    {f7 : Addr} {od7 an7 : Option Addr} {sl7 : Array (Option Value)} {oc7 kV7 dc7 pm7 cd7 ct7 : Value} (a7 : PySem.W.nsIn K mainGlobals "count_lengths" = some (some (.ref f7)))
    (l7 : K.lookup f7 = some ⟨oc7, od7, .func (PySem.W.fnOf "count_lengths" "count_lengths" (defArgs s_count_lengths) (defBody s_count_lengths) (defScope s_count_lengths) .none kV7 dc7 pm7 an7 cd7 ct7), sl7⟩)
    (c7 : PySem.W.codeIn K cd7 "count_lengths" = true)
    (k7 : PySem.W.keepIn K (.ref f7) = true)
    {f8 : Addr} {od8 an8 : Option Addr} {sl8 : Array (Option Value)} {oc8 kV8 dc8 pm8 cd8 ct8 : Value} (a8 : PySem.W.nsIn K mainGlobals "_law_pool" = some (some (.ref f8)))
    (l8 : K.lookup f8 = some ⟨oc8, od8, .func (PySem.W.fnOf "_law_pool" "_law_pool" (defArgs s__law_pool) (defBody s__law_pool) (defScope s__law_pool) .none kV8 dc8 pm8 an8 cd8 ct8), sl8⟩)
    (c8 : PySem.W.codeIn K cd8 "_law_pool" = true)
    (k8 : PySem.W.keepIn K (.ref f8) = true)
    {f9 : Addr} {od9 an9 : Option Addr} {sl9 : Array (Option Value)} {oc9 kV9 dc9 pm9 cd9 ct9 : Value} (a9 : PySem.W.nsIn K mainGlobals "_law_draw" = some (some (.ref f9)))
    (l9 : K.lookup f9 = some ⟨oc9, od9, .func (PySem.W.fnOf "_law_draw" "_law_draw" (defArgs s__law_draw) (defBody s__law_draw) (defScope s__law_draw) .none kV9 dc9 pm9 an9 cd9 ct9), sl9⟩)
    (c9 : PySem.W.codeIn K cd9 "_law_draw" = true)
    (k9 : PySem.W.keepIn K (.ref f9) = true)
    {f10 : Addr} {od10 an10 : Option Addr} {sl10 : Array (Option Value)} {oc10 kV10 dc10 pm10 cd10 ct10 : Value} (a10 : PySem.W.nsIn K mainGlobals "_law_span" = some (some (.ref f10)))
    (l10 : K.lookup f10 = some ⟨oc10, od10, .func (PySem.W.fnOf "_law_span" "_law_span" (defArgs s__law_span) (defBody s__law_span) (defScope s__law_span) .none kV10 dc10 pm10 an10 cd10 ct10), sl10⟩)
    (c10 : PySem.W.codeIn K cd10 "_law_span" = true)
    (k10 : PySem.W.keepIn K (.ref f10) = true)
    {f11 : Addr} {od11 an11 : Option Addr} {sl11 : Array (Option Value)} {oc11 kV11 dc11 pm11 cd11 ct11 : Value} (a11 : PySem.W.nsIn K mainGlobals "_law_is_free" = some (some (.ref f11)))
    (l11 : K.lookup f11 = some ⟨oc11, od11, .func (PySem.W.fnOf "_law_is_free" "_law_is_free" (defArgs s__law_is_free) (defBody s__law_is_free) (defScope s__law_is_free) .none kV11 dc11 pm11 an11 cd11 ct11), sl11⟩)
    (c11 : PySem.W.codeIn K cd11 "_law_is_free" = true)
    (k11 : PySem.W.keepIn K (.ref f11) = true)
    {f12 : Addr} {od12 an12 : Option Addr} {sl12 : Array (Option Value)} {oc12 kV12 dc12 pm12 cd12 ct12 : Value} (a12 : PySem.W.nsIn K mainGlobals "_law_right" = some (some (.ref f12)))
    (l12 : K.lookup f12 = some ⟨oc12, od12, .func (PySem.W.fnOf "_law_right" "_law_right" (defArgs s__law_right) (defBody s__law_right) (defScope s__law_right) .none kV12 dc12 pm12 an12 cd12 ct12), sl12⟩)
    (c12 : PySem.W.codeIn K cd12 "_law_right" = true)
    (k12 : PySem.W.keepIn K (.ref f12) = true)
    {f13 : Addr} {od13 an13 : Option Addr} {sl13 : Array (Option Value)} {oc13 kV13 dc13 pm13 cd13 ct13 : Value} (a13 : PySem.W.nsIn K mainGlobals "law" = some (some (.ref f13)))
    (l13 : K.lookup f13 = some ⟨oc13, od13, .func (PySem.W.fnOf "law" "law" (defArgs s_law) (defBody s_law) (defScope s_law) .none kV13 dc13 pm13 an13 cd13 ct13), sl13⟩)
    (c13 : PySem.W.codeIn K cd13 "law" = true)
    (k13 : PySem.W.keepIn K (.ref f13) = true)
    {fI CS : Addr} {p1 p2 q1 q2 q3 q4 : Pos} {odI anI : Option Addr} {slI : Array (Option Value)} {ocI dcI pmI cdI ctI : Value}
    {C_InvalidNumber N_InvalidNumber : Addr} {nm_InvalidNumber q_InvalidNumber : Str} {bs_InvalidNumber sub_InvalidNumber : List Value} {sn_InvalidNumber : List Str} {ab_InvalidNumber : Bool} {col_InvalidNumber : Option Bool} {dd_InvalidNumber : Option Addr} {m0_InvalidNumber m1_InvalidNumber m2_InvalidNumber m3_InvalidNumber m5_InvalidNumber : Option Value}
    (x0_InvalidNumber : PySem.W.nsIn K mainGlobals "InvalidNumber" = some (some (.ref C_InvalidNumber)))
    (x1_InvalidNumber : K.lookup C_InvalidNumber = some (excClassObj nm_InvalidNumber q_InvalidNumber C_InvalidNumber N_InvalidNumber bs_InvalidNumber [.ref CS, .type "ValueError", .type "Exception", .type "BaseException", .type "object"] true sn_InvalidNumber sub_InvalidNumber ab_InvalidNumber col_InvalidNumber dd_InvalidNumber m0_InvalidNumber m1_InvalidNumber m2_InvalidNumber m3_InvalidNumber m5_InvalidNumber "ValueError.__new__"))
    (x2_InvalidNumber : PySem.W.findIn K (.ref C_InvalidNumber) "__setattr__" = some (some (.builtin "object.__setattr__")))
    (x3_InvalidNumber : PySem.W.findIn K (.ref C_InvalidNumber) "__getattribute__" = some (some (.builtin "BaseException.__getattribute__")))
    (x4_InvalidNumber : PySem.W.findIn K (.ref C_InvalidNumber) "__getattr__" = some none)
    (x5_InvalidNumber : PySem.W.findIn K (.ref C_InvalidNumber) "value" = some none)
    (x7_InvalidNumber : PySem.W.keepIn K (.ref C_InvalidNumber) = true)
    (x8_InvalidNumber : PySem.W.subIn K (.ref C_InvalidNumber) (.type "BaseException") = some true)
    (x9_InvalidNumber : PySem.W.typeIn K (.ref C_InvalidNumber) = some (.type "type"))
    (xa_InvalidNumber : PySem.W.hasDictIn K C_InvalidNumber = true)
    (xb_InvalidNumber : PySem.W.isClsIn K C_InvalidNumber = true)
    (xc_InvalidNumber : PySem.W.subIn K (.ref C_InvalidNumber) (.ref C_InvalidNumber) = some true)
    (x6_InvalidNumber : PySem.W.findIn K (.ref C_InvalidNumber) "__init__" = some (some (.ref fI)))
    (lI : K.lookup fI = some ⟨ocI, odI, .func (PySem.W.fnOf "__init__" "StrideError.__init__" (PySem.ErrX.iA p1 p2) (PySem.ErrX.iB q1 q2 q3 q4) PySem.ErrX.iS .none .none dcI pmI anI cdI ctI), slI⟩)
    (cI : PySem.W.codeIn K cdI "StrideError.__init__" = true)
    (tI : PySem.W.typeIn K (.ref fI) = some (.type "function"))
    (z_abs : PySem.W.nsIn K mainGlobals "abs" = some none)
    (z_gcd : PySem.W.nsIn K mainGlobals "gcd" = some (some (.builtin "math.gcd")))
    (z_isqrt : PySem.W.nsIn K mainGlobals "isqrt" = some (some (.builtin "math.isqrt")))
    (z_len : PySem.W.nsIn K mainGlobals "len" = some none)
    (z_max : PySem.W.nsIn K mainGlobals "max" = some none)
    (z_min : PySem.W.nsIn K mainGlobals "min" = some none)
    (z_range : PySem.W.nsIn K mainGlobals "range" = some none)
    (z_set : PySem.W.nsIn K mainGlobals "set" = some none)
    (z_sum : PySem.W.nsIn K mainGlobals "sum" = some none)
    {t_MOST_BANKS : Tok} (gc_MOST_BANKS : PySem.W.nsIn K mainGlobals "MOST_BANKS" = some (some (.int 4096 t_MOST_BANKS)))
    {t_MOST_LANES : Tok} (gc_MOST_LANES : PySem.W.nsIn K mainGlobals "MOST_LANES" = some (some (.int 32 t_MOST_LANES)))
    : ∃ fd : FuncData, (∀ (s : Shared) (v : Value), BindsTo s fd ⟨[v], []⟩ [("script", v)]) ∧ ∀ base : Heap, K.In base → base.Ns mainGlobals mg → FnG l.prog w K mg base 5 fa fd ["script"] (LSp K spLawD) := by
  have e := hfa.symm.trans (PySem.W.mg_of X G a13)
  cases e
  let A : Cls := ⟨C_InvalidNumber⟩
  have T : Glob w K mg A fI := ⟨{ gC := PySem.W.mg_of X G x0_InvalidNumber, cls := ⟨nm_InvalidNumber, q_InvalidNumber, N_InvalidNumber, bs_InvalidNumber, _, sn_InvalidNumber, sub_InvalidNumber, ab_InvalidNumber, col_InvalidNumber, dd_InvalidNumber, m0_InvalidNumber, m1_InvalidNumber, m2_InvalidNumber, m3_InvalidNumber, m5_InvalidNumber, x1_InvalidNumber, rfl⟩, sa := x2_InvalidNumber, ga := x3_InvalidNumber, gg := x4_InvalidNumber, noN := x5_InvalidNumber, iC := x6_InvalidNumber, tC := tI, kC := x7_InvalidNumber, exC := x8_InvalidNumber, tyC := x9_InvalidNumber, hdC := xa_InvalidNumber, te := exm_self x8_InvalidNumber xb_InvalidNumber x9_InvalidNumber xc_InvalidNumber, fn := ⟨_, _, _, _, _, _, _, _, _, _, _, _, _, _, lI, cI⟩ },
    PySem.W.mg_none_of X G z_abs,
    PySem.W.mg_of X G z_gcd,
    PySem.W.mg_of X G z_isqrt,
    PySem.W.mg_none_of X G z_len,
    PySem.W.mg_none_of X G z_max,
    PySem.W.mg_none_of X G z_min,
    PySem.W.mg_none_of X G z_range,
    PySem.W.mg_none_of X G z_set,
    PySem.W.mg_none_of X G z_sum,
    ⟨t_MOST_BANKS, PySem.W.mg_of X G gc_MOST_BANKS⟩,
    ⟨t_MOST_LANES, PySem.W.mg_of X G gc_MOST_LANES⟩,
    trivial⟩
  refine ⟨PySem.W.fnOf "law" "law" (defArgs s_law) (defBody s_law) (defScope s_law) .none kV13 dc13 pm13 an13 cd13 ct13, fun s v => .of_eq rfl, fun base _ _ => ?_⟩
  have h__law_pool : Fd l.prog w K mg base "_law_pool" 1 ["script", "at"] (c__law_pool A) := dh__law_pool T (fun_mk (st := s__law_pool) l8 c8 k8) (PySem.W.mg_of X G a8)
  have h__law_draw : Fd l.prog w K mg base "_law_draw" 1 ["pool", "many"] (c__law_draw A) := dh__law_draw T (fun_mk (st := s__law_draw) l9 c9 k9) (PySem.W.mg_of X G a9)
  have h__law_is_free : Fd l.prog w K mg base "_law_is_free" 1 ["span", "many", "long"] (c__law_is_free A) := dh__law_is_free T (fun_mk (st := s__law_is_free) l11 c11 k11) (PySem.W.mg_of X G a11)
  have h__law_span : Fd l.prog w K mg base "_law_span" 2 ["pool"] (c__law_span A) := dh__law_span T h__law_draw (fun_mk (st := s__law_span) l10 c10 k10) (PySem.W.mg_of X G a10)
  have h_check_banks : Fd l.prog w K mg base "check_banks" 1 ["banks"] (c_check_banks A) := dh_check_banks T (fun_mk (st := s_check_banks) l1 c1 k1) (PySem.W.mg_of X G a1)
  have h_check_length : Fd l.prog w K mg base "check_length" 1 ["length"] (c_check_length A) := dh_check_length T (fun_mk (st := s_check_length) l2 c2 k2) (PySem.W.mg_of X G a2)
  have h_check_wave : Fd l.prog w K mg base "check_wave" 1 ["wave"] (c_check_wave A) := dh_check_wave T (fun_mk (st := s_check_wave) l0 c0 k0) (PySem.W.mg_of X G a0)
  have h_divisors : Fd l.prog w K mg base "divisors" 1 ["number"] (c_divisors A) := dh_divisors T (fun_mk (st := s_divisors) l3 c3 k3) (PySem.W.mg_of X G a3)
  have h_is_free_length : Fd l.prog w K mg base "is_free_length" 1 ["wave", "banks", "length"] (c_is_free_length A) := dh_is_free_length T (fun_mk (st := s_is_free_length) l4 c4 k4) (PySem.W.mg_of X G a4)
  have h_signed_divisors : Fd l.prog w K mg base "signed_divisors" 2 ["wave", "banks"] (c_signed_divisors A) := dh_signed_divisors T h_divisors h_is_free_length (fun_mk (st := s_signed_divisors) l5 c5 k5) (PySem.W.mg_of X G a5)
  have h_count_lengths : Fd l.prog w K mg base "count_lengths" 3 ["wave", "banks", "low", "high"] (c_count_lengths A) := dh_count_lengths T h_check_banks h_check_length h_check_wave h_signed_divisors (fun_mk (st := s_count_lengths) l7 c7 k7) (PySem.W.mg_of X G a7)
  have h_least_length : Fd l.prog w K mg base "least_length" 2 ["wave", "banks", "length"] (c_least_length A) := dh_least_length T h_check_banks h_check_length h_check_wave h_is_free_length (fun_mk (st := s_least_length) l6 c6 k6) (PySem.W.mg_of X G a6)
  have hk_count_lengths_1 : FdX l.prog w K mg base "count_lengths" 3 ["wave", "banks", "low", "high"] (c_count_lengths A) ["high", "low", "banks", "wave"] 0 [3, 2, 1, 0] [] := dhk_count_lengths_1 T h_check_banks h_check_length h_check_wave h_signed_divisors (fun_mk (st := s_count_lengths) l7 c7 k7) (PySem.W.mg_of X G a7)
  have hk_least_length_0 : FdX l.prog w K mg base "least_length" 2 ["wave", "banks", "length"] (c_least_length A) ["length", "banks", "wave"] 0 [2, 1, 0] [] := dhk_least_length_0 T h_check_banks h_check_length h_check_wave h_is_free_length (fun_mk (st := s_least_length) l6 c6 k6) (PySem.W.mg_of X G a6)
  have h__law_right : Fd l.prog w K mg base "_law_right" 4 ["pool"] (c__law_right A) := dh__law_right T h__law_draw h__law_is_free h__law_span h_count_lengths h_least_length hk_count_lengths_1 hk_least_length_0 (fun_mk (st := s__law_right) l12 c12 k12) (PySem.W.mg_of X G a12)
  exact fd_lawG T h__law_pool h__law_right h_count_lengths h_least_length (fun_mk (st := s_law) l13 c13 k13)
theorem walk {l : PySem.W.OpenLaw} {q : Program} {loose : List Str} {XP : (Str → Option Value) → Heap → Prop} {YP : World → Heap → Prop} {d : DefRec} {K : Params → PySem.W.Frag} (hn : l.most = some 63) (hdf : d.params.defaults = []) (hY : ∀ (w : World) (h : Heap), YP w h → (K w.params).In h)
    (F : ∀ (w : World) (mg : Str → Option Value) (fa : Addr) (h : Heap), (K w.params).In h → h.Ns mainGlobals mg → mg d.name = some (.ref fa) →
      ∃ fd : FuncData, (∀ (s : Shared) (u : Value), BindsTo s fd ⟨[u], []⟩ [("script", u)]) ∧ ∀ base : Heap, (K w.params).In base → base.Ns mainGlobals mg → FnG l.prog w (K w.params) mg base 5 fa fd ["script"] (LSp (K w.params) spLawD)) :
    PySem.W.WalkO q loose XP YP l.row.toRowW d [] (fun f vs => PySem.call f vs) := walkD (k := 5) (x := "script") hn hdf ⟨rfl, by decide, by decide⟩ hY F
end Law
open PySem PySem.W PyProof.Rows
set_option maxRecDepth 100000 in
set_option maxHeartbeats 0 in
theorem PySem.Challenge.cw_stridelanes_k47_lengths_without_conflict_holds : PySem.Challenge.rw_stridelanes_k47_lengths_without_conflict.Holds := by
  w_on; o_law; k_head; (case hw => w_witness2)
  k_fill
  refine Law.walk (l := PySem.Challenge.rw_stridelanes_k47_lengths_without_conflict) rfl rfl (fun w h Y => PySem.W.kIn_of Y) ?F
  case F =>
    intro w mg fa h KX G hmg
    refine' Law.all_mk KX G hmg ?a0 ?l0 ?c0 ?k0 ?a1 ?l1 ?c1 ?k1 ?a2 ?l2 ?c2 ?k2 ?a3 ?l3 ?c3 ?k3 ?a4 ?l4 ?c4 ?k4 ?a5 ?l5 ?c5 ?k5 ?a6 ?l6 ?c6 ?k6 ?a7 ?l7 ?c7 ?k7 ?a8 ?l8 ?c8 ?k8 ?a9 ?l9 ?c9 ?k9 ?a10 ?l10 ?c10 ?k10 ?a11 ?l11 ?c11 ?k11 ?a12 ?l12 ?c12 ?k12 ?a13 ?l13 ?c13 ?k13 ?x0_InvalidNumber ?x1_InvalidNumber ?x2_InvalidNumber ?x3_InvalidNumber ?x4_InvalidNumber ?x5_InvalidNumber ?x7_InvalidNumber ?x8_InvalidNumber ?x9_InvalidNumber ?xa_InvalidNumber ?xb_InvalidNumber ?xc_InvalidNumber ?x6_InvalidNumber ?lI ?cI ?tI ?z_abs ?z_gcd ?z_isqrt ?z_len ?z_max ?z_min ?z_range ?z_set ?z_sum ?gc_MOST_BANKS ?gc_MOST_LANES
    (case a0 => k_is)
    (case a1 => k_is)
    (case a2 => k_is)
    (case a3 => k_is)
    (case a4 => k_is)
    (case a5 => k_is)
    (case a6 => k_is)
    (case a7 => k_is)
    (case a8 => k_is)
    (case a9 => k_is)
    (case a10 => k_is)
    (case a11 => k_is)
    (case a12 => k_is)
    (case a13 => k_is)
    (case x0_InvalidNumber => k_is)
    (case x6_InvalidNumber => k_is)
    (case l0 => k_is)
    (case c0 => k_is)
    (case k0 => k_is)
    (case l1 => k_is)
    (case c1 => k_is)
    (case k1 => k_is)
    (case l2 => k_is)
    (case c2 => k_is)
    (case k2 => k_is)
    (case l3 => k_is)
    (case c3 => k_is)
    (case k3 => k_is)
    (case l4 => k_is)
    (case c4 => k_is)
    (case k4 => k_is)
    (case l5 => k_is)
    (case c5 => k_is)
    (case k5 => k_is)
    (case l6 => k_is)
    (case c6 => k_is)
    (case k6 => k_is)
    (case l7 => k_is)
    (case c7 => k_is)
    (case k7 => k_is)
    (case l8 => k_is)
    (case c8 => k_is)
    (case k8 => k_is)
    (case l9 => k_is)
    (case c9 => k_is)
    (case k9 => k_is)
    (case l10 => k_is)
    (case c10 => k_is)
    (case k10 => k_is)
    (case l11 => k_is)
    (case c11 => k_is)
    (case k11 => k_is)
    (case l12 => k_is)
    (case c12 => k_is)
    (case k12 => k_is)
    (case l13 => k_is)
    (case c13 => k_is)
    (case k13 => k_is)
    (case x1_InvalidNumber => k_is)
    (case x2_InvalidNumber => k_is)
    (case x3_InvalidNumber => k_is)
    (case x4_InvalidNumber => k_is)
    (case x5_InvalidNumber => k_is)
    (case x7_InvalidNumber => k_is)
    (case x8_InvalidNumber => k_is)
    (case x9_InvalidNumber => k_is)
    (case xa_InvalidNumber => k_is)
    (case xb_InvalidNumber => k_is)
    (case xc_InvalidNumber => k_is)
    (case lI => k_is)
    (case cI => k_is)
    (case tI => k_is)
    (case z_abs => k_is)
    (case z_gcd => k_is)
    (case z_isqrt => k_is)
    (case z_len => k_is)
    (case z_max => k_is)
    (case z_min => k_is)
    (case z_range => k_is)
    (case z_set => k_is)
    (case z_sum => k_is)
    (case gc_MOST_BANKS => k_is)
    (case gc_MOST_LANES => k_is)

