import PyProof.Rows.All
import Wide.All
import OpenK.AllK
import Wide.FinOn
import HandS.Base
import HandS.Call
import HandS.List
import HandS.WideBits
import HandS.Flow
import HandS.Style
import HandS.Comp
import HandS.NoneIn
import HandS.Iter
import HandS.Exc
import HandS.ExcCtx
import HandS.HotCalls
import HandS.Words
import HandS.Ends
import HandS.ForExc
import HandS.Gcd
import HandS.Deep
import HandS.Conv
import HandS.Property
import HandS.More
import HandS.HeadHook3
import HandS.Zip
import PyProof.LongRange
import HandS.Defaults
import PyProof.EnumMake
import PyProof.Draws
import HandS.Text
import PyProof.ListRange
import HandS.SortInts
import HandS.Dict
import HandS.ExcValue
import KE.DataMinMax
import PyProof.CollectIter
import HandS.IsInst
import HandS.Codes
import PyProof.InstNe
import HandS.SetBool
import HandS.Strs
import HandS.SetFor
import HandS.ForDict
import PySem.Challenge.RW_stridelanes_k76_whole_far_lines_and_bank
set_option Elab.async false
set_option linter.all false
set_option maxRecDepth 100000
/-! DL1: data over the hand layer. A datum D is what a value is, with what it holds (a frozen list, a tuple: never written again); an address stands for an object that is still written, its content in the map of writables Mu. Readings over D, not over the heap. -/
namespace DL
open PySem L2

inductive D where
  | non | bl (b : Bool) | int (i : Int) | str (x : Str) | adr (a : Addr) | typ (n : String)
  | tup (l : List D) | lst (l : List D) | rol (l : List D) | ins (C : Addr) (ns : List Str) (l : List D)

/-- the frozen objects; those that stay as they are (frozen, or out of reach) -/
structure Zo where
  F : Addr → Prop
  G : Addr → Prop
  sub : ∀ a, F a → G a

def FzT (K : PySem.W.Frag) (F : Zo) (H : Hp) (a : Addr) (vs : List V) : Prop := (F.F a ∧ Rd H a (.tup vs)) ∨ ∀ H', SqT K H' a vs
def FzR (K : PySem.W.Frag) (F : Zo) (H : Hp) (a : Addr) (vs : List V) : Prop := (F.F a ∧ Rd H a (.lst vs)) ∨ ∀ H', SqL K H' a vs

mutual
def Rep (K : PySem.W.Frag) (F : Zo) (H : Hp) : D → V → Prop
  | .non, v => v = .non
  | .bl b, v => v = .bl b
  | .int i, v => v = .int i
  | .str x, v => v = .str x
  | .adr a, v => v = .ref a
  | .typ n, v => v = .ty n
  | .tup l, v => ∃ a vs, v = .ref a ∧ FzT K F H a vs ∧ RepL K F H l vs
  | .lst l, v => ∃ a vs, v = .ref a ∧ (F.F a ∧ H a = some (.lst vs)) ∧ RepL K F H l vs
  | .rol l, v => ∃ a vs, v = .ref a ∧ FzR K F H a vs ∧ RepL K F H l vs
  | .ins C ns l, v => ∃ a dx vs, v = .ref a ∧ (F.F a ∧ H a = some (.ins C dx (ns.zip vs))) ∧ ns.length = vs.length ∧ RepL K F H l vs
def RepL (K : PySem.W.Frag) (F : Zo) (H : Hp) : List D → List V → Prop
  | [], vs => vs = []
  | d :: l, vs => ∃ v r, vs = v :: r ∧ Rep K F H d v ∧ RepL K F H l r
end

/-- what stands to be written -/
inductive M where
  | lst (l : List D)
  | dic (kvs : List (Key × D))
  | obj (C : Addr) (ns : List Str) (l : List D)
  | dkl (u : HO) (kvs : List (Key × D))

abbrev Mu := Addr → Option M
def updM (μ : Mu) (a : Addr) (m : M) : Mu := fun b => if b = a then some m else μ b
def delM (μ : Mu) (a : Addr) : Mu := fun b => if b = a then none else μ b

def Own (K : PySem.W.Frag) (F : Zo) (H : Hp) (a : Addr) : M → Prop
  | .lst l => ∃ vs, H a = some (.lst vs) ∧ RepL K F H l vs
  | .dic kvs => ∃ vs, H a = some (.dK ((kvs.map (·.1)).zip vs)) ∧ RepL K F H (kvs.map (·.2)) vs
  | .obj C ns l => ∃ dx vs, H a = some (.ins C dx (ns.zip vs)) ∧ ns.length = vs.length ∧ RepL K F H l vs
  | .dkl u kvs => ∃ o vs, H a = some u ∧ u = .frz o (.dK ((kvs.map (·.1)).zip vs)) ∧ RepL K F H (kvs.map (·.2)) vs

structure Ext (F : Zo) (H : Hp) (F' : Zo) (H' : Hp) : Prop where
  f : ∀ a, F.F a → F'.F a
  g : ∀ a, F.G a → F'.G a
  h : ∀ a, F.G a → H' a = H a
  o : ∀ a, F.G a → F'.F a → F.F a
theorem Ext.refl (F : Zo) (H : Hp) : Ext F H F H := ⟨fun _ h => h, fun _ h => h, fun _ _ => rfl, fun _ _ h => h⟩
theorem Ext.trans {F F1 F2 : Zo} {H H1 H2 : Hp} (a : Ext F H F1 H1) (b : Ext F1 H1 F2 H2) : Ext F H F2 H2 :=
  ⟨fun x h => b.f x (a.f x h), fun x h => b.g x (a.g x h), fun x h => (b.h x (a.g x h)).trans (a.h x h), fun x h k => a.o x h (b.o x (a.g x h) k)⟩
theorem Ext.hf {F F' : Zo} {H H' : Hp} (e : Ext F H F' H') {a : Addr} (h : F.F a) : H' a = H a := e.h a (F.sub a h)

structure Org where
  F : Zo
  H : Hp
structure Hd (K : PySem.W.Frag) (O : Org) (F : Zo) (H : Hp) (μ : Mu) : Prop where
  org : Ext O.F O.H F H
  fr : ∀ a, F.G a → H a ≠ none
  own : ∀ a m, μ a = some m → ¬ F.G a ∧ Own K F H a m

/-- what Rep leans on -/
structure Le (F : Zo) (H : Hp) (F' : Zo) (H' : Hp) : Prop where
  f : ∀ a, F.F a → F'.F a
  hf : ∀ {a}, F.F a → H' a = H a
theorem Ext.le {F F' : Zo} {H H' : Hp} (e : Ext F H F' H') : Le F H F' H' := ⟨e.f, fun h => e.hf h⟩

section
variable {O : Org} {K : PySem.W.Frag} {F F' : Zo} {H H' : Hp}
theorem FzT.mv {a : Addr} {vs : List V} (e : Le F H F' H') (h : FzT K F H a vs) : FzT K F' H' a vs := by
  rcases h with ⟨h1, h2⟩ | h
  · refine .inl ⟨e.f _ h1, ?_⟩
    unfold Rd at h2 ⊢
    rw [e.hf h1]; exact h2
  · exact .inr h
theorem FzR.mv {a : Addr} {vs : List V} (e : Le F H F' H') (h : FzR K F H a vs) : FzR K F' H' a vs := by
  rcases h with ⟨h1, h2⟩ | h
  · refine .inl ⟨e.f _ h1, ?_⟩
    unfold Rd at h2 ⊢
    rw [e.hf h1]; exact h2
  · exact .inr h
mutual
theorem Rep.mv (e : Le F H F' H') : ∀ (d : D) (v : V), Rep K F H d v → Rep K F' H' d v
  | .non, _, h => h
  | .bl _, _, h => h
  | .int _, _, h => h
  | .str _, _, h => h
  | .adr _, _, h => h
  | .typ _, _, h => h
  | .tup l, _, ⟨a, vs, h1, h2, h3⟩ => ⟨a, vs, h1, h2.mv e, RepL.mv e l vs h3⟩
  | .lst l, _, ⟨a, vs, h1, ⟨h2, h4⟩, h3⟩ => ⟨a, vs, h1, ⟨e.f _ h2, (e.hf h2).trans h4⟩, RepL.mv e l vs h3⟩
  | .rol l, _, ⟨a, vs, h1, h2, h3⟩ => ⟨a, vs, h1, h2.mv e, RepL.mv e l vs h3⟩
  | .ins _ _ l, _, ⟨a, dx, vs, h1, ⟨h2, h4⟩, h5, h3⟩ => ⟨a, dx, vs, h1, ⟨e.f _ h2, (e.hf h2).trans h4⟩, h5, RepL.mv e l vs h3⟩
theorem RepL.mv (e : Le F H F' H') : ∀ (l : List D) (vs : List V), RepL K F H l vs → RepL K F' H' l vs
  | [], _, h => h
  | d :: l, _, ⟨v, r, h1, h2, h3⟩ => ⟨v, r, h1, Rep.mv e d v h2, RepL.mv e l r h3⟩
end
theorem Rep.ext (e : Ext F H F' H') (d : D) (v : V) (h : Rep K F H d v) : Rep K F' H' d v := Rep.mv e.le d v h
theorem RepL.ext (e : Ext F H F' H') (l : List D) (vs : List V) (h : RepL K F H l vs) : RepL K F' H' l vs := RepL.mv e.le l vs h
theorem FzT.ext {a : Addr} {vs : List V} (e : Ext F H F' H') (h : FzT K F H a vs) : FzT K F' H' a vs := h.mv e.le
theorem FzR.ext {a : Addr} {vs : List V} (e : Ext F H F' H') (h : FzR K F H a vs) : FzR K F' H' a vs := h.mv e.le
theorem RepL.length : ∀ {l : List D} {vs : List V}, RepL K F H l vs → l.length = vs.length
  | [], _, h => by
    have h : _ = _ := h
    rw [h]; rfl
  | d :: l, _, ⟨v, r, h1, h2, h3⟩ => by rw [h1, List.length_cons, List.length_cons, RepL.length h3]
theorem RepL.cons {d : D} {l : List D} {v : V} {vs : List V} (h : Rep K F H d v) (r : RepL K F H l vs) : RepL K F H (d :: l) (v :: vs) := ⟨v, vs, rfl, h, r⟩
theorem RepL.nil : RepL K F H [] [] := rfl
theorem RepL.append : ∀ {l m : List D} {vs ws : List V}, RepL K F H l vs → RepL K F H m ws → RepL K F H (l ++ m) (vs ++ ws)
  | [], m, vs, ws, h, k => by
    have h : vs = [] := h
    subst h; exact k
  | d :: l, m, _, ws, ⟨v, r, h1, h2, h3⟩, k => by
    subst h1
    exact .cons h2 (RepL.append h3 k)
theorem RepL.get : ∀ {l : List D} {vs : List V} {i : Nat} {d : D}, RepL K F H l vs → l[i]? = some d → ∃ v, vs[i]? = some v ∧ Rep K F H d v
  | [], _, _, _, _, e => by simp at e
  | d :: l, _, 0, _, ⟨v, r, h1, h2, h3⟩, e => by
    subst h1
    simp at e
    subst e
    exact ⟨v, rfl, h2⟩
  | d :: l, _, i + 1, _, ⟨v, r, h1, h2, h3⟩, e => by
    subst h1
    obtain ⟨u, q1, q2⟩ := RepL.get (i := i) h3 (by simpa using e)
    exact ⟨u, by simpa using q1, q2⟩
theorem RepL.get' : ∀ {l : List D} {vs : List V} {i : Nat} {v : V}, RepL K F H l vs → vs[i]? = some v → ∃ d, l[i]? = some d ∧ Rep K F H d v
  | [], vs, i, v, h, e => by
    have h : vs = [] := h
    subst h; simp at e
  | d :: l, _, 0, _, ⟨v, r, h1, h2, h3⟩, e => by
    subst h1
    simp at e
    subst e
    exact ⟨d, rfl, h2⟩
  | d :: l, _, i + 1, _, ⟨v, r, h1, h2, h3⟩, e => by
    subst h1
    obtain ⟨u, q1, q2⟩ := RepL.get' (i := i) h3 (by simpa using e)
    exact ⟨u, by simpa using q1, q2⟩
theorem RepL.set : ∀ {l : List D} {vs : List V} (i : Nat) {d : D} {v : V}, RepL K F H l vs → Rep K F H d v → RepL K F H (l.set i d) (vs.set i v)
  | [], vs, i, d, v, h, _ => by
    have h : vs = [] := h
    subst h; exact RepL.nil
  | _ :: l, _, 0, d, v, ⟨w, r, h1, h2, h3⟩, k => by
    subst h1; exact .cons k h3
  | _ :: l, _, i + 1, d, v, ⟨w, r, h1, h2, h3⟩, k => by
    subst h1; exact .cons h2 (RepL.set i h3 k)
theorem RepL.take : ∀ {l : List D} {vs : List V} (n : Nat), RepL K F H l vs → RepL K F H (l.take n) (vs.take n)
  | _, _, 0, _ => RepL.nil
  | [], vs, n + 1, h => by
    have h : vs = [] := h
    subst h; exact RepL.nil
  | _ :: l, _, n + 1, ⟨v, r, h1, h2, h3⟩ => by
    subst h1; exact .cons h2 (RepL.take n h3)
theorem RepL.drop : ∀ {l : List D} {vs : List V} (n : Nat), RepL K F H l vs → RepL K F H (l.drop n) (vs.drop n)
  | _, _, 0, h => h
  | [], vs, n + 1, h => by
    have h : vs = [] := h
    subst h; exact RepL.nil
  | _ :: l, _, n + 1, ⟨v, r, h1, h2, h3⟩ => by
    subst h1; exact RepL.drop n h3
theorem RepL.ints : ∀ {ns : List Int} {vs : List V}, RepL K F H (ns.map D.int) vs → vs = ns.map V.int
  | [], _, h => h
  | n :: ns, _, ⟨v, r, h1, h2, h3⟩ => by
    have h2 : v = V.int n := h2
    subst h1 h2
    rw [RepL.ints h3]; rfl
theorem RepL.of_ints : ∀ (ns : List Int), RepL K F H (ns.map D.int) (ns.map V.int)
  | [] => RepL.nil
  | n :: ns => .cons (show Rep K F H (.int n) (.int n) from rfl) (RepL.of_ints ns)
theorem Own.mv {a : Addr} {m : M} (e : Le F H F' H') (h : Own K F H a m) (ha : H' a = H a) : Own K F' H' a m := by
  cases m with
  | lst l => obtain ⟨vs, h1, h2⟩ := h; exact ⟨vs, ha.trans h1, h2.mv e⟩
  | dic kvs => obtain ⟨vs, h1, h2⟩ := h; exact ⟨vs, ha.trans h1, h2.mv e⟩
  | obj C ns l => obtain ⟨dx, vs, h1, h3, h2⟩ := h; exact ⟨dx, vs, ha.trans h1, h3, h2.mv e⟩
  | dkl u kvs => obtain ⟨o, vs, h1, h3, h2⟩ := h; exact ⟨o, vs, ha.trans h1, h3, h2.mv e⟩
theorem Own.ext {a : Addr} {m : M} (e : Ext F H F' H') (h : Own K F H a m) (ha : H' a = H a) : Own K F' H' a m := h.mv e.le ha
theorem Own.tracked {a : Addr} {m : M} (h : Own K F H a m) : H a ≠ none := by
  cases m with
  | lst l => obtain ⟨vs, h1, h2⟩ := h; rw [h1]; simp
  | dic kvs => obtain ⟨vs, h1, h2⟩ := h; rw [h1]; simp
  | obj C ns l => obtain ⟨dx, vs, h1, h2⟩ := h; rw [h1]; simp
  | dkl u kvs => obtain ⟨o, vs, h1, h2⟩ := h; rw [h1]; simp
variable {μ : Mu}
theorem Hd.free {p : Addr} (h : Hd K O F H μ) (hp : H p = none) : μ p = none := by
  cases e : μ p with
  | none => rfl
  | some m => exact absurd hp (h.own p m e).2.tracked
theorem Hd.nf {p : Addr} (h : Hd K O F H μ) (hp : H p = none) : ¬ F.G p := fun f => h.fr p f hp
/-- one object more that is frozen -/
def addF (F : Zo) (p : Addr) : Zo := ⟨fun a => F.F a ∨ a = p, fun a => F.G a ∨ a = p, fun a h => h.imp (F.sub a) id⟩
/-- one object more that is out of reach -/
def addG (F : Zo) (p : Addr) : Zo := ⟨F.F, fun a => F.G a ∨ a = p, fun a h => .inl (F.sub a h)⟩
def remG (F : Zo) (p : Addr) (h : ¬ F.F p) : Zo := ⟨F.F, fun a => F.G a ∧ a ≠ p, fun a k => ⟨F.sub a k, fun z => h (z ▸ k)⟩⟩
theorem ext_new {p : Addr} {o : HO} (h : Hd K O F H μ) (hp : H p = none) : Ext F H F (upd H p o) :=
  ⟨fun _ f => f, fun _ f => f, fun a f => upd_ne fun z => h.nf hp (z ▸ f), fun _ _ f => f⟩
theorem ext_newF {p : Addr} {o : HO} (h : Hd K O F H μ) (hp : H p = none) : Ext F H (addF F p) (upd H p o) :=
  ⟨fun _ f => .inl f, fun _ f => .inl f, fun a f => upd_ne fun z => h.nf hp (z ▸ f), fun a f k => k.elim id fun z => absurd (z ▸ f) (h.nf hp)⟩
/-- an object is laid and frozen at once -/
theorem Hd.newF {p : Addr} {o : HO} (h : Hd K O F H μ) (hp : H p = none) : Hd K O (addF F p) (upd H p o) μ := by
  refine ⟨h.org.trans (ext_newF h hp), fun a f => ?_, fun a m e => ?_⟩
  · rcases f with f | f
    · by_cases z : a = p
      · subst z; rw [upd_same]; simp
      · rw [upd_ne z]; exact h.fr a f
    · subst f; rw [upd_same]; simp
  · have z : a ≠ p := fun z => by rw [z, h.free hp] at e; cases e
    obtain ⟨h1, h2⟩ := h.own a m e
    exact ⟨fun f => f.elim h1 z, h2.ext (ext_newF h hp) (upd_ne z)⟩
/-- an object is laid, to be written -/
theorem Hd.newM {p : Addr} {o : HO} {m : M} (h : Hd K O F H μ) (hp : H p = none) (w : Own K F (upd H p o) p m) : Hd K O F (upd H p o) (updM μ p m) := by
  refine ⟨h.org.trans (ext_new h hp), fun a f => ?_, fun a m' e => ?_⟩
  · have z : a ≠ p := fun z => h.nf hp (z ▸ f)
    rw [upd_ne z]; exact h.fr a f
  · by_cases z : a = p
    · subst z
      have e : some m = some m' := (if_pos rfl).symm.trans e
      cases e
      exact ⟨h.nf hp, w⟩
    · have e : μ a = some m' := (if_neg z).symm.trans e
      obtain ⟨h1, h2⟩ := h.own a m' e
      exact ⟨h1, h2.ext (ext_new h hp) (upd_ne z)⟩
theorem ext_set {p : Addr} {o : HO} {m : M} (h : Hd K O F H μ) (hm : μ p = some m) : Ext F H F (upd H p o) :=
  ⟨fun _ f => f, fun _ f => f, fun a f => upd_ne fun z => (h.own p m hm).1 (z ▸ f), fun _ _ f => f⟩
/-- an object is written -/
theorem Hd.set {p : Addr} {o : HO} {m m' : M} (h : Hd K O F H μ) (hm : μ p = some m) (w : Own K F (upd H p o) p m') : Hd K O F (upd H p o) (updM μ p m') := by
  refine ⟨h.org.trans (ext_set h hm), fun a f => ?_, fun a m2 e => ?_⟩
  · have z : a ≠ p := fun z => (h.own p m hm).1 (z ▸ f)
    rw [upd_ne z]; exact h.fr a f
  · by_cases z : a = p
    · subst z
      have e : some m' = some m2 := (if_pos rfl).symm.trans e
      cases e
      exact ⟨(h.own a m hm).1, w⟩
    · have e : μ a = some m2 := (if_neg z).symm.trans e
      obtain ⟨h1, h2⟩ := h.own a m2 e
      exact ⟨h1, h2.ext (ext_set h hm) (upd_ne z)⟩
/-- an object is frozen -/
theorem Hd.frz {p : Addr} {m : M} (h : Hd K O F H μ) (hm : μ p = some m) : Hd K O (addF F p) H (delM μ p) ∧ Ext F H (addF F p) H := by
  have ex : Ext F H (addF F p) H := ⟨fun _ f => .inl f, fun _ f => .inl f, fun _ _ => rfl, fun a f k => k.elim id fun z => absurd (z ▸ f) (h.own p m hm).1⟩
  refine ⟨⟨h.org.trans ex, fun a f => ?_, fun a m2 e => ?_⟩, ex⟩
  · rcases f with f | f
    · exact h.fr a f
    · subst f; exact (h.own a m hm).2.tracked
  · have z : a ≠ p := fun z => by
      subst z
      have e : none = some m2 := (if_pos rfl).symm.trans e
      cases e
    have e : μ a = some m2 := (if_neg z).symm.trans e
    obtain ⟨h1, h2⟩ := h.own a m2 e
    exact ⟨fun f => f.elim h1 z, h2.ext ex rfl⟩
theorem Hd.sub {μ' : Mu} (h : Hd K O F H μ) (s : ∀ a m, μ' a = some m → μ a = some m) : Hd K O F H μ' := ⟨h.org, h.fr, fun a m e => h.own a m (s a m e)⟩
end

/-! ### the writables -/
def Sub (μ' μ : Mu) : Prop := ∀ a m, μ' a = some m → μ a = some m
theorem Sub.refl (μ : Mu) : Sub μ μ := fun _ _ h => h
theorem Sub.trans {a b c : Mu} (h : Sub a b) (k : Sub b c) : Sub a c := fun x m e => k x m (h x m e)
theorem Sub.new {μ μ' : Mu} {p : Addr} {m : M} (s : Sub μ μ') (h : μ p = none) : Sub μ (updM μ' p m) := fun a m' e => by
  have z : a ≠ p := fun z => by rw [z, h] at e; cases e
  exact (if_neg z).trans (s a m' e)
theorem Sub.del {μ μ' : Mu} {p : Addr} (s : Sub μ μ') (h : μ p = none) : Sub μ (delM μ' p) := fun a m' e => by
  have z : a ≠ p := fun z => by rw [z, h] at e; cases e
  exact (if_neg z).trans (s a m' e)
@[simp] theorem updM_same (μ : Mu) (p : Addr) (m : M) : updM μ p m p = some m := if_pos rfl
theorem updM_ne {μ : Mu} {p a : Addr} {m : M} (h : a ≠ p) : updM μ p m a = μ a := if_neg h
@[simp] theorem updM_updM (μ : Mu) (p : Addr) (m m' : M) : updM (updM μ p m) p m' = updM μ p m' := by
  funext b; unfold updM; split <;> rfl
theorem updM_eta {μ : Mu} {p : Addr} {m : M} (h : μ p = some m) : updM μ p m = μ := by
  funext b; unfold updM; split
  · rename_i e; rw [e, h]
  · rfl
theorem delM_updM {μ : Mu} {p : Addr} (m : M) (h : μ p = none) : delM (updM μ p m) p = μ := by
  funext b; unfold delM updM; split
  · rename_i e; rw [e, h]
  · rfl
theorem updM_comm {μ : Mu} {p r : Addr} {m m' : M} (h : p ≠ r) : updM (updM μ p m) r m' = updM (updM μ r m') p m := by
  funext b; unfold updM
  by_cases e1 : b = r
  · subst e1; rw [if_pos rfl, if_neg (fun z => h z.symm), if_pos rfl]
  · rw [if_neg e1]
    by_cases e2 : b = p
    · subst e2; rw [if_pos rfl, if_pos rfl]
    · rw [if_neg e2, if_neg e2, if_neg e1]

/-! ### readings over data -/
abbrev DS := List (Option D)
abbrev DK := D → Mu → Prop
abbrev DTE := DS → Mu → DK → Prop
abbrev DTT := DS → Mu → (Bool → Mu → Prop) → Prop
abbrev DTA := DS → Mu → (List D → Mu → Prop) → Prop
structure DEnds where
  nx : DS → Mu → Prop
  rt : DK
  bk : DS → Mu → Prop := fun _ _ => False
  ct : DS → Mu → Prop := fun _ _ => False
abbrev DTS := DEnds → DS → Mu → Prop

/-- the slots -/
structure RepS (K : PySem.W.Frag) (F : Zo) (H : Hp) (δ : DS) (σ : St) : Prop where
  len : δ.length = σ.length
  at_ : ∀ (i : Nat) (d : D), δ[i]? = some (some d) → ∃ v, σ[i]? = some (some v) ∧ Rep K F H d v
section
variable {O : Org} {K : PySem.W.Frag} {F F' : Zo} {H H' : Hp} {δ : DS} {σ : St}
theorem RepS.ext (e : Ext F H F' H') (h : RepS K F H δ σ) : RepS K F' H' δ σ := ⟨h.len, fun i d q => let ⟨v, h1, h2⟩ := h.at_ i d q; ⟨v, h1, h2.ext e⟩⟩
theorem RepS.set (h : RepS K F H δ σ) {i : Nat} {d : D} {v : V} (r : Rep K F H d v) : RepS K F H (δ.set i (some d)) (σ.set i (some v)) := by
  refine ⟨by rw [List.length_set, List.length_set, h.len], fun j e q => ?_⟩
  by_cases z : j = i
  · subst z
    have hj : j < δ.length := by
      have := (List.getElem?_eq_some_iff.mp q).1
      rw [List.length_set] at this; exact this
    rw [List.getElem?_set_self hj] at q
    cases q
    exact ⟨v, List.getElem?_set_self (by rw [← h.len]; exact hj), r⟩
  · rw [List.getElem?_set_ne (Ne.symm z)] at q ⊢
    exact h.at_ j e q
end

structure LEnds (K : PySem.W.Frag) (O : Org) (F : Zo) (H : Hp) (E : DEnds) (Z : Ends) : Prop where
  nx : ∀ F' H' μ δ σ, Ext F H F' H' → Hd K O F' H' μ → RepS K F' H' δ σ → E.nx δ μ → Z.nx σ H'
  rt : ∀ F' H' μ d v, Ext F H F' H' → Hd K O F' H' μ → Rep K F' H' d v → E.rt d μ → Z.rt v H'
  bk : ∀ F' H' μ δ σ, Ext F H F' H' → Hd K O F' H' μ → RepS K F' H' δ σ → E.bk δ μ → Z.bk σ H'
  ct : ∀ F' H' μ δ σ, Ext F H F' H' → Hd K O F' H' μ → RepS K F' H' δ σ → E.ct δ μ → Z.ct σ H'
theorem LEnds.ext {K : PySem.W.Frag} {F F' : Zo} {H H' : Hp} {E : DEnds} {Z : Ends} (h : LEnds K O F H E Z) (e : Ext F H F' H') : LEnds K O F' H' E Z :=
  ⟨fun _ _ _ _ _ x => h.nx _ _ _ _ _ (e.trans x), fun _ _ _ _ _ x => h.rt _ _ _ _ _ (e.trans x), fun _ _ _ _ _ x => h.bk _ _ _ _ _ (e.trans x), fun _ _ _ _ _ x => h.ct _ _ _ _ _ (e.trans x)⟩

def LE (K : PySem.W.Frag) (O : Org) (t : DTE) : TE := fun σ H Q => ∃ F δ μ q, Hd K O F H μ ∧ RepS K F H δ σ ∧ t δ μ q ∧ ∀ F' H' μ' d v, Ext F H F' H' → Hd K O F' H' μ' → Rep K F' H' d v → q d μ' → Q v H'
def LT (K : PySem.W.Frag) (O : Org) (t : DTT) : TT := fun σ H Q => ∃ F δ μ q, Hd K O F H μ ∧ RepS K F H δ σ ∧ t δ μ q ∧ ∀ F' H' μ' b, Ext F H F' H' → Hd K O F' H' μ' → q b μ' → Q b H'
def LA (K : PySem.W.Frag) (O : Org) (t : DTA) : TA := fun σ H Q => ∃ F δ μ q, Hd K O F H μ ∧ RepS K F H δ σ ∧ t δ μ q ∧ ∀ F' H' μ' ds vs, Ext F H F' H' → Hd K O F' H' μ' → RepL K F' H' ds vs → q ds μ' → Q vs H'
def LS (K : PySem.W.Frag) (O : Org) (t : DTS) : TS := fun Z σ H => ∃ F δ μ E, Hd K O F H μ ∧ RepS K F H δ σ ∧ t E δ μ ∧ LEnds K O F H E Z
abbrev DTG := D → DS → Mu → (DS → Mu → Prop) → Prop
def LG (K : PySem.W.Frag) (O : Org) (t : DTG) : TG := fun v σ H Q => ∃ F d δ μ q, Hd K O F H μ ∧ RepS K F H δ σ ∧ Rep K F H d v ∧ t d δ μ q ∧ ∀ F' H' μ' δ' σ', Ext F H F' H' → Hd K O F' H' μ' → RepS K F' H' δ' σ' → q δ' μ' → Q σ' H'
abbrev DTGs := List D → DS → Mu → (DS → Mu → Prop) → Prop
def LGs (K : PySem.W.Frag) (O : Org) (t : DTGs) : TGs := fun vs σ H Q => ∃ F ds δ μ q, Hd K O F H μ ∧ RepS K F H δ σ ∧ RepL K F H ds vs ∧ t ds δ μ q ∧ ∀ F' H' μ' δ' σ', Ext F H F' H' → Hd K O F' H' μ' → RepS K F' H' δ' σ' → q δ' μ' → Q σ' H'

abbrev DE (O : Org) (X : Cx) (e : Expr) (t : DTE) : Prop := PE X e (LE X.K O t)
abbrev DT (O : Org) (X : Cx) (e : Expr) (t : DTT) : Prop := PT X e (LT X.K O t)
abbrev DW (O : Org) (X : Cx) (e : Expr) (t : DTT) : Prop := PW X e (LT X.K O t)
abbrev DA (O : Org) (X : Cx) (es : List Expr) (t : DTA) : Prop := PA X es (LA X.K O t)
abbrev DSt (O : Org) (X : Cx) (s : Stmt) (t : DTS) : Prop := PS X s (LS X.K O t)
abbrev DSs (O : Org) (X : Cx) (s : List Stmt) (t : DTS) : Prop := PSs X s (LS X.K O t)
abbrev DG (O : Org) (X : Cx) (e : Expr) (t : DTG) : Prop := PG X e (LG X.K O t)
abbrev DGs (O : Org) (X : Cx) (es : List Expr) (t : DTGs) : Prop := PGs X es (LGs X.K O t)

variable {O : Org}
theorem pe_weak {X : Cx} {e : Expr} {t t' : TE} (h : PE X e t) (w : ∀ σ H Q, t' σ H Q → t σ H Q) : PE X e t' := ⟨fun pins s σ H Q I q => h.run pins s σ H Q I (w σ H Q q)⟩
theorem pt_weak {X : Cx} {e : Expr} {t t' : TT} (h : PT X e t) (w : ∀ σ H Q, t' σ H Q → t σ H Q) : PT X e t' := ⟨fun pins s σ H Q I q => h.run pins s σ H Q I (w σ H Q q)⟩
theorem pw_weak {X : Cx} {e : Expr} {t t' : TT} (h : PW X e t) (w : ∀ σ H Q, t' σ H Q → t σ H Q) : PW X e t' := ⟨fun wh pins s σ H Q I q => h.run wh pins s σ H Q I (w σ H Q q)⟩
theorem pa_weak {X : Cx} {e : List Expr} {t t' : TA} (h : PA X e t) (w : ∀ σ H Q, t' σ H Q → t σ H Q) : PA X e t' := ⟨fun pos pins s σ H Q I q => h.run pos pins s σ H Q I (w σ H Q q)⟩
theorem ps_weak {X : Cx} {e : Stmt} {t t' : TS} (h : PS X e t) (w : ∀ Z σ H, t' Z σ H → t Z σ H) : PS X e t' := ⟨fun pins s σ H Z I q => h.run pins s σ H Z I (w Z σ H q)⟩
theorem pss_weak {X : Cx} {e : List Stmt} {t t' : TS} (h : PSs X e t) (w : ∀ Z σ H, t' Z σ H → t Z σ H) : PSs X e t' := ⟨fun pins s σ H Z I q => h.run pins s σ H Z I (w Z σ H q)⟩
theorem pg_weak {X : Cx} {e : Expr} {t t' : TG} (h : PG X e t) (w : ∀ v σ H Q, t' v σ H Q → t v σ H Q) : PG X e t' := ⟨fun pins s σ H v u Q I r q => h.run pins s σ H v u Q I r (w v σ H Q q)⟩
theorem pgs_weak {X : Cx} {e : List Expr} {t t' : TGs} (h : PGs X e t) (w : ∀ v σ H Q, t' v σ H Q → t v σ H Q) : PGs X e t' := ⟨fun pins s σ H v u Q I r q => h.run pins s σ H v u Q I r (w v σ H Q q)⟩

/-! ### names, constants, displays -/
section
variable {O : Org} {X : Cx} {a b : Expr} {ta tb tc : DTE} {pos : Pos}
def dVar (i : Nat) : DTE := fun δ μ q => match δ[i]? with | some (some d) => q d μ | _ => False
def dC (d : D) : DTE := fun _ μ q => q d μ
theorem de_of_var {e : Expr} {i : Nat} (h : PE X e (tVar i)) : DE O X e (dVar i) := pe_weak h fun σ H Q ⟨F, δ, μ, q, hd, rs, t, k⟩ => by
  unfold dVar at t
  split at t
  · rename_i d e
    obtain ⟨v, h1, h2⟩ := rs.at_ i d e
    exact ⟨v, h1, k F H μ d v (Ext.refl F H) hd h2 t⟩
  · exact t.elim
theorem dv (i : Nat) {x : Str} {pos : Pos} (hN : X.N[i]? = some x := by rfl) (hv : Vis X.env.scope x := by first | exact Or.inl rfl | exact Or.inr (Or.inl rfl) | exact Or.inr (Or.inr rfl)) (hd : (x == ("__debug__" : Str)) = false := by decide)
    (hcd : (x == ("__classdict__" : Str)) = false := by decide) : DE O X (.Name x pos) (dVar i) := de_of_var (pe_var hN hv hd hcd)
theorem de_of_c {e : Expr} {d : D} {v : V} (h : PE X e (tC v)) (r : ∀ F H, Rep X.K F H d v) : DE O X e (dC d) := pe_weak h fun σ H Q ⟨F, δ, μ, q, hd, rs, t, k⟩ =>
  k F H μ d v (Ext.refl F H) hd (r F H) t
theorem de_int {i : Int} {j} : DE O X (.Constant (.int i) j pos) (dC (.int i)) := de_of_c pe_int fun _ _ => rfl
theorem de_bl {i : Bool} {j} : DE O X (.Constant (.bool i) j pos) (dC (.bl i)) := de_of_c pe_bl fun _ _ => rfl
theorem de_non {j} : DE O X (.Constant .none j pos) (dC .non) := de_of_c pe_non fun _ _ => rfl
theorem de_str {x : Str} {j} : DE O X (.Constant (.str x) j pos) (dC (.str x)) := de_of_c pe_str fun _ _ => rfl
def dNil : DTA := fun _ μ q => q [] μ
def dCons (ta : DTE) (tr : DTA) : DTA := fun δ μ q => ta δ μ fun d μ1 => tr δ μ1 fun ds μ2 => q (d :: ds) μ2
theorem da_nil : DA O X [] dNil := pa_weak pa_nil fun σ H Q ⟨F, δ, μ, q, hd, rs, t, k⟩ => k F H μ [] [] (Ext.refl F H) hd RepL.nil t
theorem da_cons {es : List Expr} {tr : DTA} (ha : DE O X a ta) (hr : DA O X es tr) (hs : starEach (a :: es) X.env = (false, eval a X.env) :: starEach es X.env := by rfl) : DA O X (a :: es) (dCons ta tr) :=
  pa_weak (pa_cons ha hr hs) fun σ H Q ⟨F, δ, μ, q, hd, rs, t, k⟩ =>
    ⟨F, δ, μ, _, hd, rs, t, fun F1 H1 μ1 d v e1 hd1 r1 t1 => ⟨F1, δ, μ1, _, hd1, rs.ext e1, t1, fun F2 H2 μ2 ds vs e2 hd2 r2 t2 =>
      k F2 H2 μ2 _ _ (e1.trans e2) hd2 (.cons (r1.ext e2) r2) t2⟩⟩
def dTup (t : DTA) : DTE := fun δ μ q => t δ μ fun ds μ1 => ds.length ≤ sizeLine ∧ q (.tup ds) μ1
def dLst (t : DTA) : DTE := fun δ μ q => t δ μ fun ds μ1 => ds.length ≤ sizeLine ∧ q (.lst ds) μ1
/-- a list that is to be written -/
def dLstM (t : DTA) : DTE := fun δ μ q => t δ μ fun ds μ1 => ds.length ≤ sizeLine ∧ ∀ p, μ1 p = none → q (.adr p) (updM μ1 p (.lst ds))
variable {es : List Expr} {t : DTA}
theorem de_tup {k} (h : DA O X es t) : DE O X (.Tuple es k pos) (dTup t) := pe_weak (pe_tup h) fun σ H Q ⟨F, δ, μ, q, hd, rs, t, k⟩ =>
  ⟨F, δ, μ, _, hd, rs, t, fun F1 H1 μ1 ds vs e1 hd1 r1 ⟨hl, t1⟩ => ⟨by rw [← r1.length]; exact hl, fun p hp =>
    k _ _ μ1 (.tup ds) (.ref p) (e1.trans (ext_newF hd1 hp)) (hd1.newF hp) ⟨p, vs, rfl, .inl ⟨.inr rfl, .inl upd_same⟩, r1.ext (ext_newF hd1 hp)⟩ t1⟩⟩
theorem de_lst (h : DA O X es t) : DE O X (.List es pos) (dLst t) := pe_weak (pe_lst h) fun σ H Q ⟨F, δ, μ, q, hd, rs, t, k⟩ =>
  ⟨F, δ, μ, _, hd, rs, t, fun F1 H1 μ1 ds vs e1 hd1 r1 ⟨hl, t1⟩ => ⟨by rw [← r1.length]; exact hl, fun p hp =>
    k _ _ μ1 (.lst ds) (.ref p) (e1.trans (ext_newF hd1 hp)) (hd1.newF hp) ⟨p, vs, rfl, ⟨.inr rfl, upd_same⟩, r1.ext (ext_newF hd1 hp)⟩ t1⟩⟩
theorem de_lstM (h : DA O X es t) : DE O X (.List es pos) (dLstM t) := pe_weak (pe_lst h) fun σ H Q ⟨F, δ, μ, q, hd, rs, t, k⟩ =>
  ⟨F, δ, μ, _, hd, rs, t, fun F1 H1 μ1 ds vs e1 hd1 r1 ⟨hl, t1⟩ => ⟨by rw [← r1.length]; exact hl, fun p hp =>
    k _ _ _ (.adr p) (.ref p) (e1.trans (ext_new hd1 hp)) (hd1.newM (m := .lst ds) hp ⟨vs, upd_same, r1.ext (ext_new hd1 hp)⟩) rfl (t1 p (hd1.free hp))⟩⟩
end
end DL

set_option Elab.async false
set_option linter.all false
set_option maxRecDepth 100000
namespace DL
open PySem L2 PySem.Spec PyProof.Rows

/-! ### lists wherever they stand -/
def lstOf (μ : Mu) : D → Option (List D)
  | .lst l => some l
  | .rol l => some l
  | .adr p => match μ p with
    | some (.lst l) => some l
    | _ => none
  | _ => none
/-- a list that may be added to another -/
def catOf (μ : Mu) : D → Option (List D)
  | .lst l => some l
  | .adr p => match μ p with
    | some (.lst l) => some l
    | _ => none
  | _ => none
section
variable {O : Org} {K : PySem.W.Frag} {F F' : Zo} {H H' : Hp} {μ μ' : Mu} {d e : D} {v w : V} {l : List D}
theorem FzT.sq {a : Addr} {vs : List V} (h : FzT K F H a vs) : SqT K H a vs := h.elim (fun h => .inl h.2) fun h => h H
theorem FzR.sq {a : Addr} {vs : List V} (h : FzR K F H a vs) : SqL K H a vs := h.elim (fun h => .inl h.2) fun h => h H
theorem list_sq (hd : Hd K O F H μ) (r : Rep K F H d v) (e : lstOf μ d = some l) : ∃ a vs, v = .ref a ∧ SqL K H a vs ∧ RepL K F H l vs := by
  cases d <;> simp only [lstOf] at e <;> try cases e
  · rename_i p
    obtain rfl : v = .ref p := r
    split at e
    · rename_i m hm
      cases e
      obtain ⟨_, vs, h1, h2⟩ := hd.own p _ hm
      exact ⟨p, vs, rfl, SqL.of h1, h2⟩
    · cases e
  · obtain ⟨a, vs, h1, h2, h3⟩ := r
    exact ⟨a, vs, h1, SqL.of h2.2, h3⟩
  · obtain ⟨a, vs, h1, h2, h3⟩ := r
    exact ⟨a, vs, h1, h2.sq, h3⟩
theorem list_cat (hd : Hd K O F H μ) (r : Rep K F H d v) (e : catOf μ d = some l) : ∃ a vs, v = .ref a ∧ H a = some (.lst vs) ∧ RepL K F H l vs := by
  cases d <;> simp only [catOf] at e <;> try cases e
  · rename_i p
    obtain rfl : v = .ref p := r
    split at e
    · rename_i m hm
      cases e
      obtain ⟨_, vs, h1, h2⟩ := hd.own p _ hm
      exact ⟨p, vs, rfl, h1, h2⟩
    · cases e
  · obtain ⟨a, vs, h1, h2, h3⟩ := r
    exact ⟨a, vs, h1, h2.2, h3⟩
end

/-! ### operators -/
abbrev DR2 := D → D → Mu → DK → Prop
def OpD (K : PySem.W.Frag) (r : R2) (rd : DR2) : Prop := ∀ O F H μ x y v w q Q, Hd K O F H μ → Rep K F H x v → Rep K F H y w → rd x y μ q →
  (∀ F' H' μ' d u, Ext F H F' H' → Hd K O F' H' μ' → Rep K F' H' d u → q d μ' → Q u H') → r v w H Q
abbrev DU := D → Mu → DK → Prop
def UnD (K : PySem.W.Frag) (r : V → Hp → VK → Prop) (rd : DU) : Prop := ∀ O F H μ x v q Q, Hd K O F H μ → Rep K F H x v → rd x μ q →
  (∀ F' H' μ' d u, Ext F H F' H' → Hd K O F' H' μ' → Rep K F' H' d u → q d μ' → Q u H') → r v H Q
abbrev DC2 := List D → Mu → DK → Prop
def CallD (K : PySem.W.Frag) (r : List V → Hp → VK → Prop) (rd : DC2) : Prop := ∀ O F H μ ds vs q Q, Hd K O F H μ → RepL K F H ds vs → rd ds μ q →
  (∀ F' H' μ' d u, Ext F H F' H' → Hd K O F' H' μ' → Rep K F' H' d u → q d μ' → Q u H') → r vs H Q
def dOp (rd : DR2) (ta tb : DTE) : DTE := fun δ μ q => ta δ μ fun x μ1 => tb δ μ1 fun y μ2 => rd x y μ2 q
def dUn (rd : DU) (ta : DTE) : DTE := fun δ μ q => ta δ μ fun x μ1 => rd x μ1 q
def dTest (t : DTE) : DTT := fun δ μ q => t δ μ fun x μ1 => match x with | .bl b => q b μ1 | _ => False
section
variable {O : Org} {X : Cx} {a b c : Expr} {ta tb tc : DTE} {pos : Pos} {r r' : R2} {rd rd' : DR2}
theorem lop {K : PySem.W.Frag} (h : OpD K r rd) : ∀ σ H Q, LE K O (dOp rd ta tb) σ H Q → tOp r (LE K O ta) (LE K O tb) σ H Q := fun σ H Q ⟨F, δ, μ, q, hd, rs, t, k⟩ =>
  ⟨F, δ, μ, _, hd, rs, t, fun F1 H1 μ1 x v e1 hd1 r1 t1 => ⟨F1, δ, μ1, _, hd1, rs.ext e1, t1, fun F2 H2 μ2 y w e2 hd2 r2 t2 =>
    h O F2 H2 μ2 x y v w q Q hd2 (r1.ext e2) r2 t2 fun F' H' μ' d u e3 hd3 r3 t3 => k F' H' μ' d u ((e1.trans e2).trans e3) hd3 r3 t3⟩⟩
theorem de_op {op : Operator} (ho : OpR X (binaryOp op) r) (h : OpD X.K r rd) (ha : DE O X a ta) (hb : DE O X b tb) : DE O X (.BinOp a op b pos) (dOp rd ta tb) := pe_weak (pe_op ho ha hb) (lop h)
theorem de_un {op : UnaryOp} {r : V → Hp → VK → Prop} {rd : DU} (ho : UnR X (unaryOp op) r) (h : UnD X.K r rd) (ha : DE O X a ta) : DE O X (.UnaryOp op a pos) (dUn rd ta) :=
  pe_weak (pe_un ho ha) fun σ H Q ⟨F, δ, μ, q, hd, rs, t, k⟩ => ⟨F, δ, μ, _, hd, rs, t, fun F1 H1 μ1 x v e1 hd1 r1 t1 =>
    h O F1 H1 μ1 x v q Q hd1 r1 t1 fun F' H' μ' d u e3 hd3 r3 t3 => k F' H' μ' d u (e1.trans e3) hd3 r3 t3⟩
theorem de_cmp {op : CmpOp} (ho : OpR X (compareOp op) r) (h : OpD X.K r rd) (ha : DE O X a ta) (hb : DE O X b tb) (hm : behindInMarks op b = false) : DE O X (.Compare a [op] [b] pos) (dOp rd ta tb) := pe_weak (pe_cmpR ho ha hb hm) (lop h)
theorem ltest {K : PySem.W.Frag} {t : TE} {u : DTE} (h : ∀ σ H Q, LE K O u σ H Q → t σ H Q) : ∀ σ H Q, LT K O (dTest u) σ H Q → tTest t σ H Q := fun σ H Q ⟨F, δ, μ, q, hd, rs, t, k⟩ =>
  h σ H _ ⟨F, δ, μ, _, hd, rs, t, fun F1 H1 μ1 x v e1 hd1 r1 t1 => by
    cases x <;> first | exact False.elim t1 | skip
    rename_i b
    exact ⟨b, r1, k F1 H1 μ1 b e1 hd1 t1⟩⟩
theorem dt_cmp {op : CmpOp} (ho : OpR X (compareOp op) r) (h : OpD X.K r rd) (ha : DE O X a ta) (hb : DE O X b tb) (hm : behindInMarks op b = false) : DT O X (.Compare a [op] [b] pos) (dTest (dOp rd ta tb)) := pt_weak (pt_cmpR ho ha hb hm) (ltest (lop h))
/-- an expression that gives True or False -/
theorem dt_val (ha : DE O X a ta) (hb : PT X a (tB (LE X.K O ta))) : DT O X a (dTest ta) := pt_weak hb (fun σ H Q ⟨F, δ, μ, q, hd, rs, t, k⟩ => ⟨F, δ, μ, _, hd, rs, t, fun F1 H1 μ1 x v e1 hd1 r1 t1 => by
    cases x <;> first | exact False.elim t1 | skip
    rename_i b
    exact ⟨b, r1, k F1 H1 μ1 b e1 hd1 t1⟩⟩)
/-- a < b < c -/
def dChain (rd rd' : DR2) (ta tb tc : DTE) : DTE := fun δ μ q => ta δ μ fun x μ1 => tb δ μ1 fun y μ2 => rd x y μ2 fun z μ3 => match z with
  | .bl b => if b = true then tc δ μ3 fun u μ4 => rd' y u μ4 q else q (.bl false) μ3
  | _ => False
end
end DL

set_option Elab.async false
set_option linter.all false
set_option maxRecDepth 100000
namespace DL
open PySem L2 PySem.Spec PyProof.Rows

section
variable {O : Org} {X : Cx} {a b c : Expr} {ta tb tc : DTE} {pos : Pos} {r r' : R2} {rd rd' : DR2} {rest : List Expr} {tA tB' : DTT}
theorem lchain {K : PySem.W.Frag} (h : OpD K r rd) (h' : OpD K r' rd') : ∀ σ H Q, LE K O (dChain rd rd' ta tb tc) σ H Q → tChain r r' (LE K O ta) (LE K O tb) (LE K O tc) σ H Q := fun σ H Q ⟨F, δ, μ, q, hd, rs, t, k⟩ =>
  ⟨F, δ, μ, _, hd, rs, t, fun F1 H1 μ1 x v e1 hd1 r1 t1 => ⟨F1, δ, μ1, _, hd1, rs.ext e1, t1, fun F2 H2 μ2 y w e2 hd2 r2 t2 =>
    h O F2 H2 μ2 x y v w _ _ hd2 (r1.ext e2) r2 t2 fun F3 H3 μ3 z u e3 hd3 r3 t3 => by
      cases z <;> first | exact False.elim t3 | skip
      rename_i bz
      refine ⟨bz, r3, ?_⟩
      cases bz with
      | true =>
        dsimp only at t3
        rw [if_pos rfl] at t3
        rw [if_pos rfl]
        refine ⟨F3, δ, μ3, _, hd3, ((rs.ext e1).ext e2).ext e3, t3, fun F4 H4 μ4 u' v' e4 hd4 r4 t4 => ?_⟩
        exact h' O F4 H4 μ4 y u' w v' q Q hd4 ((r2.ext e3).ext e4) r4 t4 fun F' H' μ' d u e5 hd5 r5 t5 => k F' H' μ' d u ((((e1.trans e2).trans e3).trans e4).trans e5) hd5 r5 t5
      | false =>
        dsimp only at t3
        rw [if_neg Bool.false_ne_true] at t3
        rw [if_neg Bool.false_ne_true]
        exact k F3 H3 μ3 (.bl false) _ ((e1.trans e2).trans e3) hd3 rfl t3⟩⟩
theorem de_chain {op op' : CmpOp} (ho : OpR X (compareOp op) r) (ho' : OpR X (compareOp op') r') (h : OpD X.K r rd) (h' : OpD X.K r' rd') (ha : DE O X a ta) (hb : DE O X b tb) (hc : DE O X c tc)
    (hm : lastMarks [op, op'] [b, c] = false := by with_unfolding_all rfl) : DE O X (.Compare a [op, op'] [b, c] pos) (dChain rd rd' ta tb tc) := pe_weak (pe_chain ho ho' ha hb hc hm) (lchain h h')
theorem dt_chain {op op' : CmpOp} (ho : OpR X (compareOp op) r) (ho' : OpR X (compareOp op') r') (h : OpD X.K r rd) (h' : OpD X.K r' rd') (ha : DE O X a ta) (hb : DE O X b tb) (hc : DE O X c tc)
    (hm : lastMarks [op, op'] [b, c] = false := by with_unfolding_all rfl) : DT O X (.Compare a [op, op'] [b, c] pos) (dTest (dChain rd rd' ta tb tc)) := pt_weak (pt_chain ho ho' ha hb hc hm) (ltest (lchain h h'))

/-! ### and, or, not as tests -/
def dAnd (t u : DTT) : DTT := fun δ μ q => t δ μ fun b μ1 => if b = true then u δ μ1 q else q false μ1
def dOr (t u : DTT) : DTT := fun δ μ q => t δ μ fun b μ1 => if b = true then q true μ1 else u δ μ1 q
def dNot (t : DTT) : DTT := fun δ μ q => t δ μ fun b μ1 => q (!b) μ1
theorem dw_and1 (h : DT O X a tA) : DW O X (.BoolOp .And [a] pos) tA := pw_and1 h
theorem dw_or1 (h : DT O X a tA) : DW O X (.BoolOp .Or [a] pos) tA := pw_or1 h
theorem dw_and (ha : DT O X a tA) (hb : DW O X (.BoolOp .And (b :: rest) pos) tB') : DW O X (.BoolOp .And (a :: b :: rest) pos) (dAnd tA tB') := pw_weak (pw_and ha hb) fun σ H Q ⟨F, δ, μ, q, hd, rs, t, k⟩ =>
  ⟨F, δ, μ, _, hd, rs, t, fun F1 H1 μ1 b e1 hd1 t1 => by
    cases b with
    | true =>
      rw [if_pos rfl] at t1 ⊢
      exact ⟨F1, δ, μ1, q, hd1, rs.ext e1, t1, fun F2 H2 μ2 b e2 hd2 t2 => k F2 H2 μ2 b (e1.trans e2) hd2 t2⟩
    | false =>
      rw [if_neg Bool.false_ne_true] at t1 ⊢
      exact k F1 H1 μ1 false e1 hd1 t1⟩
theorem dw_or (ha : DT O X a tA) (hb : DW O X (.BoolOp .Or (b :: rest) pos) tB') : DW O X (.BoolOp .Or (a :: b :: rest) pos) (dOr tA tB') := pw_weak (pw_or ha hb) fun σ H Q ⟨F, δ, μ, q, hd, rs, t, k⟩ =>
  ⟨F, δ, μ, _, hd, rs, t, fun F1 H1 μ1 b e1 hd1 t1 => by
    cases b with
    | true =>
      rw [if_pos rfl] at t1 ⊢
      exact k F1 H1 μ1 true e1 hd1 t1
    | false =>
      rw [if_neg Bool.false_ne_true] at t1 ⊢
      exact ⟨F1, δ, μ1, q, hd1, rs.ext e1, t1, fun F2 H2 μ2 b e2 hd2 t2 => k F2 H2 μ2 b (e1.trans e2) hd2 t2⟩⟩
theorem dt_not (ha : DT O X a tA) : DT O X (.UnaryOp .Not a pos) (dNot tA) := pt_weak (pt_not ha) fun σ H Q ⟨F, δ, μ, q, hd, rs, t, k⟩ =>
  ⟨F, δ, μ, _, hd, rs, t, fun F1 H1 μ1 b e1 hd1 t1 => k F1 H1 μ1 (!b) e1 hd1 t1⟩
theorem dt_bool (ha : DE O X a ta) (he : ∀ whole, isTrue a X.env whole = (do let v ← whole; standAt a.pos; holding [v] (truthy v)) := by intro _; rfl) : DT O X a (dTest ta) := dt_val ha (pt_val ha he)
/-! ### as values: by truth -/
def truOf (μ : Mu) : D → Option Bool
  | .non => some false
  | .bl b => some b
  | .int i => some (i != 0)
  | .tup l => some (!l.isEmpty)
  | d => (lstOf μ d).map fun l => !l.isEmpty
theorem isEmpty_repL {K : PySem.W.Frag} {F : Zo} {H : Hp} {l : List D} {vs : List V} (h : RepL K F H l vs) : vs.isEmpty = l.isEmpty := by
  have := h.length
  cases l <;> cases vs <;> simp_all
theorem tru_rep {K : PySem.W.Frag} {F : Zo} {H : Hp} {μ : Mu} {d : D} {v : V} {b : Bool} (hd : Hd K O F H μ) (r : Rep K F H d v) (h : truOf μ d = some b) : TruV K v H b := by
  have lst : ∀ l : List D, lstOf μ d = some l → (!l.isEmpty) = b → TruV K v H b := fun l e q => by
    obtain ⟨a, vs, rfl, h2, h3⟩ := list_sq hd r e
    exact .inl ⟨vs, h2, by rw [isEmpty_repL h3]; exact q.symm⟩
  cases d with
  | non =>
    obtain rfl : v = .non := r
    simp [truOf] at h; exact h
  | bl b => obtain rfl : v = .bl b := r; simp [truOf] at h; exact h.symm
  | int i =>
    obtain rfl : v = .int i := r
    have h : some (i != 0) = some b := h
    exact (Option.some.inj h).symm
  | str x => simp [truOf, lstOf] at h
  | typ x => simp [truOf, lstOf] at h
  | ins _ _ _ => simp [truOf, lstOf] at h
  | tup l =>
    obtain ⟨a, vs, rfl, h2, h3⟩ := r
    have h : some (!l.isEmpty) = some b := h
    exact .inr (.inl ⟨vs, h2.sq, by rw [isEmpty_repL h3]; exact (Option.some.inj h).symm⟩)
  | lst l => exact lst l rfl (Option.some.inj h)
  | rol l => exact lst l rfl (Option.some.inj h)
  | adr p =>
    have h : (lstOf μ (.adr p)).map (fun l => !l.isEmpty) = some b := h
    cases e : lstOf μ (.adr p) with
    | none => rw [e] at h; cases h
    | some l => rw [e] at h; exact lst l e (Option.some.inj h)
def dTru (ta : DTE) : DTT := fun δ μ q => ta δ μ fun x μ1 => match truOf μ1 x with | some b => q b μ1 | none => False
theorem dt_truth (ha : DE O X a ta) (he : ∀ whole, isTrue a X.env whole = (do let v ← whole; standAt a.pos; holding [v] (truthy v)) := by intro _; rfl) : DT O X a (dTru ta) := pt_weak (pt_truth ha he) fun σ H Q ⟨F, δ, μ, q, hd, rs, t, k⟩ =>
  ⟨F, δ, μ, _, hd, rs, t, fun F1 H1 μ1 x v e1 hd1 r1 t1 => by
    cases h : truOf μ1 x with
    | none => rw [h] at t1; exact t1.elim
    | some b => rw [h] at t1; exact ⟨b, tru_rep hd1 r1 h, k F1 H1 μ1 b e1 hd1 t1⟩⟩
def dOrT (ta tb : DTE) : DTE := fun δ μ q => ta δ μ fun x μ1 => match truOf μ1 x with | some b => if b = true then q x μ1 else tb δ μ1 q | none => False
def dAndT (ta tb : DTE) : DTE := fun δ μ q => ta δ μ fun x μ1 => match truOf μ1 x with | some b => if b = true then tb δ μ1 q else q x μ1 | none => False
def dNotT (ta : DTE) : DTE := fun δ μ q => ta δ μ fun x μ1 => match truOf μ1 x with | some b => q (.bl (!b)) μ1 | none => False
theorem de_orT (ha : DE O X a ta) (hb : DE O X (.BoolOp .Or (b :: rest) pos) tb) : DE O X (.BoolOp .Or (a :: b :: rest) pos) (dOrT ta tb) := pe_weak (pe_orT ha hb) fun σ H Q ⟨F, δ, μ, q, hd, rs, t, k⟩ =>
  ⟨F, δ, μ, _, hd, rs, t, fun F1 H1 μ1 x v e1 hd1 r1 t1 => by
    cases h : truOf μ1 x with
    | none => rw [h] at t1; exact t1.elim
    | some b =>
      rw [h] at t1
      dsimp only at t1
      refine ⟨b, tru_rep hd1 r1 h, ?_⟩
      cases b with
      | true => rw [if_pos rfl] at t1 ⊢; exact k F1 H1 μ1 x v e1 hd1 r1 t1
      | false => rw [if_neg Bool.false_ne_true] at t1 ⊢; exact ⟨F1, δ, μ1, q, hd1, rs.ext e1, t1, fun F2 H2 μ2 d u e2 hd2 r2 t2 => k F2 H2 μ2 d u (e1.trans e2) hd2 r2 t2⟩⟩
theorem de_andT (ha : DE O X a ta) (hb : DE O X (.BoolOp .And (b :: rest) pos) tb) : DE O X (.BoolOp .And (a :: b :: rest) pos) (dAndT ta tb) := pe_weak (pe_andT ha hb) fun σ H Q ⟨F, δ, μ, q, hd, rs, t, k⟩ =>
  ⟨F, δ, μ, _, hd, rs, t, fun F1 H1 μ1 x v e1 hd1 r1 t1 => by
    cases h : truOf μ1 x with
    | none => rw [h] at t1; exact t1.elim
    | some b =>
      rw [h] at t1
      dsimp only at t1
      refine ⟨b, tru_rep hd1 r1 h, ?_⟩
      cases b with
      | true => rw [if_pos rfl] at t1 ⊢; exact ⟨F1, δ, μ1, q, hd1, rs.ext e1, t1, fun F2 H2 μ2 d u e2 hd2 r2 t2 => k F2 H2 μ2 d u (e1.trans e2) hd2 r2 t2⟩
      | false => rw [if_neg Bool.false_ne_true] at t1 ⊢; exact k F1 H1 μ1 x v e1 hd1 r1 t1⟩
theorem de_one {op} (h : DE O X a ta) : DE O X (.BoolOp op [a] pos) ta := pe_one h
theorem de_not (ha : DE O X a ta) : DE O X (.UnaryOp .Not a pos) (dNotT ta) := pe_weak (pe_notT ha) fun σ H Q ⟨F, δ, μ, q, hd, rs, t, k⟩ =>
  ⟨F, δ, μ, _, hd, rs, t, fun F1 H1 μ1 x v e1 hd1 r1 t1 => by
    cases h : truOf μ1 x with
    | none => rw [h] at t1; exact t1.elim
    | some b => rw [h] at t1; exact ⟨b, tru_rep hd1 r1 h, k F1 H1 μ1 (.bl (!b)) _ e1 hd1 rfl t1⟩⟩
def dIf (c : DTT) (ta tb : DTE) : DTE := fun δ μ q => c δ μ fun b μ1 => if b = true then ta δ μ1 q else tb δ μ1 q
theorem de_if (hc : DT O X c tA) (ha : DE O X a ta) (hb : DE O X b tb) : DE O X (.IfExp c a b pos) (dIf tA ta tb) := pe_weak (pe_ifExp hc ha hb) fun σ H Q ⟨F, δ, μ, q, hd, rs, t, k⟩ =>
  ⟨F, δ, μ, _, hd, rs, t, fun F1 H1 μ1 b e1 hd1 t1 => by
    cases b with
    | true =>
      rw [if_pos rfl] at t1 ⊢
      exact ⟨F1, δ, μ1, q, hd1, rs.ext e1, t1, fun F2 H2 μ2 d u e2 hd2 r2 t2 => k F2 H2 μ2 d u (e1.trans e2) hd2 r2 t2⟩
    | false =>
      rw [if_neg Bool.false_ne_true] at t1 ⊢
      exact ⟨F1, δ, μ1, q, hd1, rs.ext e1, t1, fun F2 H2 μ2 d u e2 hd2 r2 t2 => k F2 H2 μ2 d u (e1.trans e2) hd2 r2 t2⟩⟩
end

/-! ### the operators over data -/
def rI0D (g : Int → Int → D) : DR2 := fun x y μ q => match x, y with | .int i, .int j => q (g i j) μ | _, _ => False
def rID (C : Int → Int → Prop) (g : Int → Int → D) : DR2 := fun x y μ q => match x, y with | .int i, .int j => C i j ∧ q (g i j) μ | _, _ => False
section
variable {O : Org} {K : PySem.W.Frag} {X : Cx}
theorem od_I0 {g : Int → Int → V} {gd : Int → Int → D} (h : ∀ i j F H, Rep K F H (gd i j) (g i j)) : OpD K (rI0 g) (rI0D gd) := by
  intro O F H μ x y v w q Q hd rx ry t k
  cases x <;> cases y <;> first | exact False.elim t | skip
  rename_i i j
  obtain rfl : v = .int i := rx
  obtain rfl : w = .int j := ry
  exact ⟨i, j, rfl, rfl, k F H μ _ _ (Ext.refl F H) hd (h i j F H) t⟩
theorem od_I {C C' : Int → Int → Prop} {g : Int → Int → V} {gd : Int → Int → D} (h : ∀ i j F H, Rep K F H (gd i j) (g i j)) (hc : ∀ i j, C' i j → C i j) : OpD K (rI C g) (rID C' gd) := by
  intro O F H μ x y v w q Q hd rx ry t k
  cases x <;> cases y <;> first | exact False.elim t | skip
  rename_i i j
  obtain rfl : v = .int i := rx
  obtain rfl : w = .int j := ry
  exact ⟨i, j, rfl, rfl, hc i j t.1, k F H μ _ _ (Ext.refl F H) hd (h i j F H) t.2⟩
theorem OpD.or {r r' : R2} {rd rd' : DR2} (h : OpD K r rd) (h' : OpD K r' rd') : OpD K (fun x y H Q => r x y H Q ∨ r' x y H Q) (fun x y μ q => rd x y μ q ∨ rd' x y μ q) := by
  intro O F H μ x y v w q Q hd rx ry t k
  rcases t with t | t
  · exact .inl (h O F H μ x y v w q Q hd rx ry t k)
  · exact .inr (h' O F H μ x y v w q Q hd rx ry t k)
theorem OpD.imp {r : R2} {rd rd' : DR2} (h : OpD K r rd) (i : ∀ x y μ q, rd' x y μ q → rd x y μ q) : OpD K r rd' := fun O F H μ x y v w q Q hd rx ry t k => h O F H μ x y v w q Q hd rx ry (i x y μ q t) k
/-- the text line -/
def rAddS : DR2 := fun x y μ q => match x, y with | .str i, .str j => i.length + j.length ≤ sizeLine ∧ q (.str (i ++ j)) μ | _, _ => False
def rAddT : DR2 := fun x y μ q => match x, y with | .tup l, .tup m => l ≠ [] ∧ l.length + m.length ≤ sizeLine ∧ q (.tup (l ++ m)) μ | _, _ => False
def rAddL : DR2 := fun x y μ q => ∃ l m, catOf μ x = some l ∧ catOf μ y = some m ∧ l.length + m.length ≤ sizeLine ∧ q (.lst (l ++ m)) μ
/-- the sum is to be written -/
def rAddM : DR2 := fun x y μ q => ∃ l m, catOf μ x = some l ∧ catOf μ y = some m ∧ l.length + m.length ≤ sizeLine ∧ ∀ p, μ p = none → q (.adr p) (updM μ p (.lst (l ++ m)))
theorem od_addS : OpD K (fun x y H Q => ∃ i j, x = .str i ∧ y = .str j ∧ i.length + j.length ≤ sizeLine ∧ Q (.str (i ++ j)) H) rAddS := by
  intro O F H μ x y v w q Q hd rx ry t k
  cases x <;> cases y <;> first | exact False.elim t | skip
  rename_i i j
  obtain rfl : v = .str i := rx
  obtain rfl : w = .str j := ry
  exact ⟨i, j, rfl, rfl, t.1, k F H μ _ _ (Ext.refl F H) hd (show Rep K F H (.str (i ++ j)) (.str (i ++ j)) from rfl) t.2⟩
theorem od_addT : OpD K (rCatT K) rAddT := by
  intro O F H μ x y v w q Q hd rx ry t k
  cases x <;> cases y <;> first | exact False.elim t | skip
  rename_i l m
  obtain ⟨a, vs, rfl, h1, h2⟩ := rx
  obtain ⟨b, ws, rfl, h3, h4⟩ := ry
  obtain ⟨t1, t2, t3⟩ := t
  have e1 := h2.length
  have e2 := h4.length
  refine ⟨a, b, vs, ws, rfl, rfl, h1.sq, h3.sq, ?_, by omega, ?_, ?_⟩
  · intro z; subst z; apply t1; cases l with
    | nil => rfl
    | cons _ _ => simp at e1
  · intro z
    subst z
    cases m with
    | nil =>
      rw [List.append_nil] at t3
      exact k F H μ (.tup l) _ (Ext.refl F H) hd ⟨a, vs, rfl, h1, h2⟩ t3
    | cons _ _ => simp at e2
  · intro _ p hp
    exact k _ _ μ (.tup (l ++ m)) (.ref p) (ext_newF hd hp) (hd.newF hp) ⟨p, vs ++ ws, rfl, .inl ⟨.inr rfl, .inl upd_same⟩, (h2.append h4).ext (ext_newF hd hp)⟩ t3
theorem od_addL : OpD K rCat rAddL := by
  intro O F H μ x y v w q Q hd rx ry ⟨l, m, e1, e2, t2, t3⟩ k
  obtain ⟨a, vs, rfl, h1, h2⟩ := list_cat hd rx e1
  obtain ⟨b, ws, rfl, h3, h4⟩ := list_cat hd ry e2
  have e1 := h2.length
  have e2 := h4.length
  exact ⟨a, b, vs, ws, rfl, rfl, h1, h3, by omega, fun p hp => k _ _ μ (.lst (l ++ m)) (.ref p) (ext_newF hd hp) (hd.newF hp) ⟨p, vs ++ ws, rfl, ⟨.inr rfl, upd_same⟩, (h2.append h4).ext (ext_newF hd hp)⟩ t3⟩
theorem od_addM : OpD K rCat rAddM := by
  intro O F H μ x y v w q Q hd rx ry ⟨l, m, e1, e2, t2, t3⟩ k
  obtain ⟨a, vs, rfl, h1, h2⟩ := list_cat hd rx e1
  obtain ⟨b, ws, rfl, h3, h4⟩ := list_cat hd ry e2
  have e1 := h2.length
  have e2 := h4.length
  exact ⟨a, b, vs, ws, rfl, rfl, h1, h3, by omega, fun p hp => k _ _ _ (.adr p) (.ref p) (ext_new hd hp) (hd.newM (m := .lst (l ++ m)) hp ⟨vs ++ ws, upd_same, (h2.append h4).ext (ext_new hd hp)⟩) rfl (t3 p (hd.free hp))⟩
/-- a + b: whole numbers, texts, tuples, lists -/
def rAddD : DR2 := fun x y μ q => match x, y with
  | .int i, .int j => q (.int (i + j)) μ
  | .str i, .str j => i.length + j.length ≤ sizeLine ∧ q (.str (i ++ j)) μ
  | .tup l, .tup m => l ≠ [] ∧ l.length + m.length ≤ sizeLine ∧ q (.tup (l ++ m)) μ
  | .lst l, .lst m => l.length + m.length ≤ sizeLine ∧ q (.lst (l ++ m)) μ
  | x, y => rAddL x y μ q
theorem op_addA : OpR X (binaryOp .Add) (fun x y H Q => (rI0 fun i j => .int (i + j)) x y H Q ∨ (fun x y H Q => (fun x y H Q => ∃ i j, x = .str i ∧ y = .str j ∧ i.length + j.length ≤ sizeLine ∧ Q (.str (i ++ j)) H) x y H Q ∨ (fun x y H Q => rCatT X.K x y H Q ∨ rCat x y H Q) x y H Q) x y H Q) :=
  op_add.or (op_add_str.or (op_catT.or op_cat))
theorem od_addA : OpD K (fun x y H Q => (rI0 fun i j => .int (i + j)) x y H Q ∨ (fun x y H Q => (fun x y H Q => ∃ i j, x = .str i ∧ y = .str j ∧ i.length + j.length ≤ sizeLine ∧ Q (.str (i ++ j)) H) x y H Q ∨ (fun x y H Q => rCatT K x y H Q ∨ rCat x y H Q) x y H Q) x y H Q) rAddD := by
  refine OpD.imp ((od_I0 (gd := fun i j => .int (i + j)) fun i j F H => (show Rep K F H (.int _) _ from rfl)).or (od_addS.or (od_addT.or od_addL))) fun x y μ q t => ?_
  unfold rAddD at t
  split at t
  · exact .inl t
  · exact .inr (.inl t)
  · exact .inr (.inr (.inl t))
  · exact .inr (.inr (.inr ⟨_, _, rfl, rfl, t.1, t.2⟩))
  · exact .inr (.inr (.inr t))
theorem de_add {a b : Expr} {ta tb : DTE} {pos : Pos} (ha : DE O X a ta) (hb : DE O X b tb) : DE O X (.BinOp a .Add b pos) (dOp rAddD ta tb) := de_op op_addA od_addA ha hb
theorem de_addM {a b : Expr} {ta tb : DTE} {pos : Pos} (ha : DE O X a ta) (hb : DE O X b tb) : DE O X (.BinOp a .Add b pos) (dOp rAddM ta tb) := de_op op_cat od_addM ha hb
theorem rep_int {F : Zo} {H : Hp} {i : Int} : Rep K F H (.int i) (.int i) := rfl
theorem rep_bl {F : Zo} {H : Hp} {i : Bool} : Rep K F H (.bl i) (.bl i) := rfl
def rSubD : DR2 := rI0D fun i j => .int (i - j)
theorem de_sub {a b : Expr} {ta tb : DTE} {pos : Pos} (ha : DE O X a ta) (hb : DE O X b tb) : DE O X (.BinOp a .Sub b pos) (dOp rSubD ta tb) := de_op op_sub (od_I0 fun _ _ _ _ => rep_int) ha hb
/-- numbers of so many bits -/
def CMulD (i j : Int) : Prop := ∃ a b : Nat, i.natAbs < 2 ^ a ∧ j.natAbs < 2 ^ b ∧ a + b ≤ 134217728
def rMulD : DR2 := rID CMulD fun i j => .int (i * j)
theorem de_mul {a b : Expr} {ta tb : DTE} {pos : Pos} (ha : DE O X a ta) (hb : DE O X b tb) : DE O X (.BinOp a .Mult b pos) (dOp rMulD ta tb) := de_op op_mulX (od_I (fun _ _ _ _ => rep_int) fun _ _ ⟨_, _, h1, h2, h3⟩ => mulx_ok h1 h2 h3) ha hb
def CDivD (i j : Int) : Prop := 0 < j ∧ ∃ b : Nat, j.natAbs < 2 ^ b ∧ 0 < b ∧ b ≤ 9000
def rDivD : DR2 := rID CDivD fun i j => .int (i / j)
theorem de_fdiv {a b : Expr} {ta tb : DTE} {pos : Pos} (ha : DE O X a ta) (hb : DE O X b tb) : DE O X (.BinOp a .FloorDiv b pos) (dOp rDivD ta tb) := de_op op_fdivW (od_I (fun _ _ _ _ => rep_int) fun _ _ ⟨h1, _, h2, h3, h4⟩ => wide_div h1 h2 h3 h4) ha hb
def CModD (_ j : Int) : Prop := 0 < j
def rModD : DR2 := rID CModD fun i j => .int (i % j)
theorem de_mod {a b : Expr} {ta tb : DTE} {pos : Pos} (ha : DE O X a ta) (hb : DE O X b tb) : DE O X (.BinOp a .Mod b pos) (dOp rModD ta tb) := de_op op_mod (od_I (fun _ _ _ _ => rep_int) fun _ _ h => h) ha hb
/-- a ** b of numbers of any size -/
def CPowW (i j : Int) : Prop := 0 ≤ j ∧ (Builtin.Int.intBits i : Int) * j ≤ 2 ^ 27
theorem op_powW : OpR X (binaryOp .Pow) (rI CPowW fun i j => .int (i ^ j.toNat)) := opI fun _ _ _ _ _ _ _ hc q => pow_int hc.1 hc.2 q
theorem bits_le {i : Int} {n : Nat} (h : i.natAbs < 2 ^ n) : (Builtin.Int.intBits i : Int) ≤ n := by
  unfold Builtin.Int.intBits
  split
  · omega
  · rename_i hi
    have h0 : i.natAbs ≠ 0 := by
      intro z
      apply hi
      have : i = 0 := Int.natAbs_eq_zero.mp z
      simp [this]
    have : i.natAbs.log2 < n := (Nat.log2_lt h0).mpr h
    omega
def CPowD (i j : Int) : Prop := 0 ≤ j ∧ ∃ a : Nat, i.natAbs < 2 ^ a ∧ (a : Int) * j ≤ 134217728
def rPowD : DR2 := rID CPowD fun i j => .int (i ^ j.toNat)
theorem de_pow {a b : Expr} {ta tb : DTE} {pos : Pos} (ha : DE O X a ta) (hb : DE O X b tb) : DE O X (.BinOp a .Pow b pos) (dOp rPowD ta tb) := de_op op_powW (od_I (fun _ _ _ _ => rep_int) fun i j ⟨h1, a, h2, h3⟩ => by
  refine ⟨h1, ?_⟩
  have h4 := bits_le h2
  have h5 : (Builtin.Int.intBits i : Int) * j ≤ (a : Int) * j := Int.mul_le_mul_of_nonneg_right h4 h1
  have h6 : (2 : Int) ^ 27 = 134217728 := by decide
  rw [h6]
  omega) ha hb
def rNegD : DU := fun x μ q => match x with | .int i => q (.int (-i)) μ | _ => False
theorem de_neg {a : Expr} {ta : DTE} {pos : Pos} (ha : DE O X a ta) : DE O X (.UnaryOp .USub a pos) (dUn rNegD ta) := de_un un_neg (fun O F H μ x v q Q hd rx t k => by
  cases x <;> first | exact False.elim t | skip
  rename_i i
  obtain rfl : v = .int i := rx
  exact ⟨i, rfl, k F H μ _ _ (Ext.refl F H) hd rep_int t⟩) ha
/-! comparisons -/
def rLtD : DR2 := rI0D fun i j => .bl (decide (i < j))
def rLeD : DR2 := rI0D fun i j => .bl (decide (i ≤ j))
def rGtD : DR2 := rI0D fun i j => .bl (decide (j < i))
def rGeD : DR2 := rI0D fun i j => .bl (decide (j ≤ i))
theorem od_lt : OpD K (rI0 fun i j => .bl (decide (i < j))) rLtD := od_I0 fun _ _ _ _ => rep_bl
theorem od_le : OpD K (rI0 fun i j => .bl (decide (i ≤ j))) rLeD := od_I0 fun _ _ _ _ => rep_bl
theorem od_gt : OpD K (rI0 fun i j => .bl (decide (j < i))) rGtD := od_I0 fun _ _ _ _ => rep_bl
theorem od_ge : OpD K (rI0 fun i j => .bl (decide (j ≤ i))) rGeD := od_I0 fun _ _ _ _ => rep_bl
end
end DL

set_option Elab.async false
set_option linter.all false
set_option maxRecDepth 100000
namespace DL
open PySem L2 PySem.Spec PyProof.Rows

/-! ### data that == compares -/
mutual
def pyD : D → PyData
  | .bl b => .bool b
  | .int i => .int i
  | .str x => .str x
  | .tup l => .tuple (pyDs l)
  | .lst l => .list (pyDs l)
  | .rol l => .list (pyDs l)
  | _ => .none
def pyDs : List D → List PyData
  | [] => []
  | d :: l => pyD d :: pyDs l
end
mutual
/-- data, of a depth at most k -/
def plainD : Nat → D → Bool
  | _, .non => true
  | _, .bl _ => true
  | _, .int _ => true
  | _, .str x => PyData.strOk x
  | k + 1, .tup l => plainDs k l
  | k + 1, .lst l => plainDs k l
  | k + 1, .rol l => plainDs k l
  | _, _ => false
def plainDs : Nat → List D → Bool
  | _, [] => true
  | k, d :: l => plainD k d && plainDs k l
end
theorem plainDs_iff {k : Nat} : ∀ {l : List D}, plainDs k l = true ↔ ∀ d ∈ l, plainD k d = true
  | [] => by simp [plainDs]
  | d :: l => by simp [plainDs, plainDs_iff (l := l)]
theorem pyDs_map : ∀ l : List D, pyDs l = l.map pyD
  | [] => rfl
  | d :: l => by rw [pyDs, pyDs_map l]; rfl
def nrm (μ : Mu) : D → D
  | .adr p => match μ p with
    | some (.lst l) => .lst l
    | _ => .adr p
  | d => d
section
variable {O : Org} {K : PySem.W.Frag} {F F' : Zo} {H H' : Hp} {μ μ' : Mu}
mutual
theorem dp_of {k : Nat} : ∀ (d : D) (v : V), plainD k d = true → Rep K F H d v → Dp K H v (pyD d)
  | .non, v, _, h => by obtain rfl : v = .non := h; exact .non
  | .bl b, v, _, h => by obtain rfl : v = .bl b := h; exact .bl b
  | .int b, v, _, h => by obtain rfl : v = .int b := h; exact .int b
  | .str b, v, _, h => by obtain rfl : v = .str b := h; exact .str b
  | .adr _, _, p, _ => by simp [plainD] at p
  | .typ _, _, p, _ => by simp [plainD] at p
  | .ins _ _ _, _, p, _ => by simp [plainD] at p
  | .tup l, v, p, ⟨a, vs, h1, h2, h3⟩ => by
    subst h1
    cases k with
    | zero => simp [plainD] at p
    | succ k => exact .tup h2.sq (dps_of l vs p h3)
  | .lst l, v, p, ⟨a, vs, h1, h2, h3⟩ => by
    subst h1
    cases k with
    | zero => simp [plainD] at p
    | succ k => exact .lst (SqL.of h2.2) (dps_of l vs p h3)
  | .rol l, v, p, ⟨a, vs, h1, h2, h3⟩ => by
    subst h1
    cases k with
    | zero => simp [plainD] at p
    | succ k => exact .lst h2.sq (dps_of l vs p h3)
theorem dps_of {k : Nat} : ∀ (l : List D) (vs : List V), plainDs k l = true → RepL K F H l vs → DpAll K H vs (pyDs l)
  | [], vs, _, h => by
    obtain rfl : vs = [] := h
    exact .nil
  | d :: l, _, p, ⟨v, r, h1, h2, h3⟩ => by
    subst h1
    have p : (plainD k d && plainDs k l) = true := p
    rw [Bool.and_eq_true] at p
    exact .cons (dp_of d v p.1 h2) (dps_of l r p.2 h3)
end
mutual
theorem plain_lay {k : Nat} : ∀ (d : D), plainD k d = true → (pyD d).canLay0 = true ∧ (pyD d).depth ≤ k
  | .non, _ => ⟨rfl, Nat.zero_le _⟩
  | .bl b, _ => ⟨rfl, Nat.zero_le _⟩
  | .int b, _ => ⟨rfl, Nat.zero_le _⟩
  | .str b, p => ⟨p, Nat.zero_le _⟩
  | .adr _, p => by simp [plainD] at p
  | .typ _, p => by simp [plainD] at p
  | .ins _ _ _, p => by simp [plainD] at p
  | .tup l, p => by
    cases k with
    | zero => simp [plainD] at p
    | succ k => exact let h := plain_lays l p; ⟨h.1, Nat.succ_le_succ h.2⟩
  | .lst l, p => by
    cases k with
    | zero => simp [plainD] at p
    | succ k => exact let h := plain_lays l p; ⟨h.1, Nat.succ_le_succ h.2⟩
  | .rol l, p => by
    cases k with
    | zero => simp [plainD] at p
    | succ k => exact let h := plain_lays l p; ⟨h.1, Nat.succ_le_succ h.2⟩
theorem plain_lays {k : Nat} : ∀ (l : List D), plainDs k l = true → PyData.canLayAll0 (pyDs l) = true ∧ PyData.depthAll (pyDs l) ≤ k
  | [], _ => ⟨rfl, Nat.zero_le _⟩
  | d :: l, p => by
    have p : (plainD k d && plainDs k l) = true := p
    rw [Bool.and_eq_true] at p
    obtain ⟨h1, h2⟩ := plain_lay d p.1
    obtain ⟨h3, h4⟩ := plain_lays l p.2
    refine ⟨?_, ?_⟩
    · show (PyData.canLay0 (pyD d) && PyData.canLayAll0 (pyDs l)) = true
      rw [h1, h3]; rfl
    · show max (PyData.depth (pyD d)) (PyData.depthAll (pyDs l)) ≤ k
      omega
end
theorem shaped_of {d : D} (p : plainD 64 d = true) : SeqAt.shaped (pyD d) = true := by
  obtain ⟨h1, h2⟩ := plain_lay d p
  unfold SeqAt.shaped
  rw [h1, decide_eq_true h2]; rfl
theorem nrm_rep {d : D} {v : V} (hd : Hd K O F H μ) (p : plainD 64 (nrm μ d) = true) (r : Rep K F H d v) : Dp K H v (pyD (nrm μ d)) := by
  cases d with
  | adr a =>
    obtain rfl : v = .ref a := r
    cases hm : μ a with
    | none => simp [nrm, hm, plainD] at p
    | some m =>
      cases m with
      | lst l =>
        have e : nrm μ (.adr a) = .lst l := by simp [nrm, hm]
        rw [e] at p ⊢
        have p : plainDs 63 l = true := p
        obtain ⟨_, vs, h1, h2⟩ := hd.own a _ hm
        exact .lst (SqL.of h1) (dps_of (k := 63) l vs p h2)
      | dic _ => simp [nrm, hm, plainD] at p
      | obj _ _ _ => simp [nrm, hm, plainD] at p
      | dkl _ _ => simp [nrm, hm, plainD] at p
  | _ => exact dp_of _ _ p r
end
/-- == as data -/
def eqD (x y : D) : Bool := PyData.eqv (pyD x) (pyD y)
theorem eqD_refl {k : Nat} {d : D} (p : plainD k d = true) : eqD d d = true := SeqAt.eqv_refl _ (plain_lay d p).1
theorem eqD_int (i j : Int) : eqD (.int i) (.int j) = decide (i = j) := by
  show (i == j) = decide (i = j)
  exact Bool.beq_eq_decide_eq i j
theorem eqD_str (i j : Str) : eqD (.str i) (.str j) = decide (i = j) := by
  show (i == j) = decide (i = j)
  exact Bool.beq_eq_decide_eq i j
theorem eqD_tup (l m : List D) : eqD (.tup l) (.tup m) = PyData.eqvAll (pyDs l) (pyDs m) := rfl
theorem eqD_lst (l m : List D) : eqD (.lst l) (.lst m) = PyData.eqvAll (pyDs l) (pyDs m) := rfl
theorem eqvAll_cons (d e : D) (l m : List D) : PyData.eqvAll (pyDs (d :: l)) (pyDs (e :: m)) = (eqD d e && PyData.eqvAll (pyDs l) (pyDs m)) := rfl
def rEqG : DR2 := fun x y μ q => match x, y with
  | .int i, .int j => q (.bl (decide (i = j))) μ
  | .str i, .str j => q (.bl (decide (i = j))) μ
  | x, y => plainD 64 (nrm μ x) = true ∧ plainD 64 (nrm μ y) = true ∧ q (.bl (eqD (nrm μ x) (nrm μ y))) μ
def rNeG : DR2 := fun x y μ q => match x, y with
  | .int i, .int j => q (.bl (!decide (i = j))) μ
  | .str i, .str j => q (.bl (!decide (i = j))) μ
  | x, y => plainD 64 (nrm μ x) = true ∧ plainD 64 (nrm μ y) = true ∧ q (.bl (!eqD (nrm μ x) (nrm μ y))) μ
section
variable {O : Org} {K : PySem.W.Frag} {X : Cx} {a b : Expr} {ta tb : DTE} {pos : Pos}
theorem op_eqA (hu : X.A.units + 64 < cLine) : OpR X (compareOp .Eq) (fun x y H Q => rEq x y H Q ∨ rEqD X.K x y H Q) := op_eq.or (op_eqD hu)
theorem op_neA (hu : X.A.units + 64 < cLine) : OpR X (compareOp .NotEq) (fun x y H Q => rNe x y H Q ∨ rNeD X.K x y H Q) := op_ne.or (op_neD hu)
theorem decV_int (i j : Int) : decide (V.int i = V.int j) = decide (i = j) := by
  by_cases h : i = j
  · subst h; simp
  · rw [decide_eq_false h, decide_eq_false fun e => h (V.int.inj e)]
theorem decV_str (i j : Str) : decide (V.str i = V.str j) = decide (i = j) := by
  by_cases h : i = j
  · subst h; simp
  · rw [decide_eq_false h, decide_eq_false fun e => h (V.str.inj e)]
theorem od_eqA : OpD K (fun x y H Q => rEq x y H Q ∨ rEqD K x y H Q) rEqG := by
  intro O F H μ x y v w q Q hd rx ry t k
  unfold rEqG at t
  split at t
  · rename_i i j
    obtain rfl : v = .int i := rx
    obtain rfl : w = .int j := ry
    exact .inl ⟨rfl, k F H μ (.bl (decide (i = j))) _ (Ext.refl F H) hd (by rw [decV_int]; exact rep_bl) t⟩
  · rename_i i j
    obtain rfl : v = .str i := rx
    obtain rfl : w = .str j := ry
    exact .inl ⟨rfl, k F H μ (.bl (decide (i = j))) _ (Ext.refl F H) hd (by rw [decV_str]; exact rep_bl) t⟩
  · obtain ⟨t1, t2, t3⟩ := t
    exact .inr ⟨_, _, nrm_rep hd t1 rx, nrm_rep hd t2 ry, shaped_of t1, shaped_of t2, k F H μ _ _ (Ext.refl F H) hd rep_bl t3⟩
theorem od_neA : OpD K (fun x y H Q => rNe x y H Q ∨ rNeD K x y H Q) rNeG := by
  intro O F H μ x y v w q Q hd rx ry t k
  unfold rNeG at t
  split at t
  · rename_i i j
    obtain rfl : v = .int i := rx
    obtain rfl : w = .int j := ry
    exact .inl ⟨rfl, k F H μ (.bl (!decide (i = j))) _ (Ext.refl F H) hd (by rw [decV_int]; exact rep_bl) t⟩
  · rename_i i j
    obtain rfl : v = .str i := rx
    obtain rfl : w = .str j := ry
    exact .inl ⟨rfl, k F H μ (.bl (!decide (i = j))) _ (Ext.refl F H) hd (by rw [decV_str]; exact rep_bl) t⟩
  · obtain ⟨t1, t2, t3⟩ := t
    exact .inr ⟨_, _, nrm_rep hd t1 rx, nrm_rep hd t2 ry, shaped_of t1, shaped_of t2, k F H μ _ _ (Ext.refl F H) hd rep_bl t3⟩
/-- is None -/
def isNonD : D → Bool
  | .non => true
  | _ => false
def rIsNG : DR2 := fun x y μ q => match y with | .non => q (.bl (isNonD x)) μ | _ => False
def rNotNG : DR2 := fun x y μ q => match y with | .non => q (.bl (!isNonD x)) μ | _ => False
theorem isNon_rep {F : Zo} {H : Hp} {d : D} {v : V} (r : Rep K F H d v) : decide (v = V.non) = isNonD d := by
  cases d <;> first
    | (have r : v = _ := r; subst r; rfl)
    | (obtain ⟨a, vs, rfl, _⟩ := r; rfl)
    | (obtain ⟨a, dx, vs, rfl, _⟩ := r; rfl)
theorem od_isN : OpD K (fun x y H Q => y = .non ∧ Q (.bl (decide (x = .non))) H) rIsNG := by
  intro O F H μ x y v w q Q hd rx ry t k
  cases y <;> first | exact False.elim t | skip
  obtain rfl : w = .non := ry
  exact ⟨rfl, k F H μ (.bl (isNonD x)) _ (Ext.refl F H) hd (by rw [isNon_rep rx]; exact rep_bl) t⟩
theorem od_notN : OpD K (fun x y H Q => y = .non ∧ Q (.bl (!decide (x = .non))) H) rNotNG := by
  intro O F H μ x y v w q Q hd rx ry t k
  cases y <;> first | exact False.elim t | skip
  obtain rfl : w = .non := ry
  exact ⟨rfl, k F H μ (.bl (!isNonD x)) _ (Ext.refl F H) hd (by rw [isNon_rep rx]; exact rep_bl) t⟩

/-! ### items -/
/-- xs[i], i an int in its bounds: of a list, a tuple, a text -/
def rIxG : DR2 := fun x y μ q => match y with
  | .int i => match x with
    | .tup l => match atI l i with | some d => q d μ | none => False
    | .str z => z.length ≤ sizeLine ∧ match atI z.cps.toList i with | some c => q (.str ⟨#[c]⟩) μ | none => False
    | .adr p => ∃ l d, μ p = some (.lst l) ∧ atI l i = some d ∧ q d μ
    | x => match lstOf μ x with
      | some l => match atI l i with | some d => q d μ | none => False
      | none => False
  | _ => False
theorem atI_rep {F : Zo} {H : Hp} {l : List D} {vs : List V} {i : Int} {d : D} (r : RepL K F H l vs) (h : atI l i = some d) : ∃ v, atI vs i = some v ∧ Rep K F H d v := by
  unfold atI at h ⊢
  rw [← r.length]
  cases e : ixN l.length i with
  | none => rw [e] at h; simp at h
  | some j =>
    rw [e] at h
    have h : l[j]? = some d := by simpa using h
    obtain ⟨v, h1, h2⟩ := r.get h
    exact ⟨v, by simpa using h1, h2⟩
theorem od_ix : OpD K (rIx K) rIxG := by
  intro O F H μ x y v w q Q hd rx ry t k
  unfold rIxG at t
  split at t
  · rename_i i
    obtain rfl : w = .int i := ry
    split at t
    · rename_i l
      obtain ⟨a, vs, rfl, h1, h2⟩ := rx
      split at t
      · rename_i d e
        obtain ⟨u, e1, e2⟩ := atI_rep h2 e
        exact .inr (.inl ⟨a, vs, i, u, rfl, rfl, h1.sq, e1, k F H μ d u (Ext.refl F H) hd e2 t⟩)
      · exact t.elim
    · rename_i z
      obtain rfl : v = .str z := rx
      obtain ⟨t1, t⟩ := t
      split at t
      · rename_i c e
        exact .inr (.inr ⟨z, i, c, rfl, rfl, t1, e, k F H μ _ _ (Ext.refl F H) hd (show Rep K F H (.str _) (.str _) from rfl) t⟩)
      · exact t.elim
    · obtain ⟨l, d, hm, e, t⟩ := t
      rename_i p
      obtain ⟨a, vs, rfl, h1, h2⟩ := list_sq hd rx (show lstOf μ (.adr p) = some l by show (match μ p with | some (.lst l) => some l | _ => none) = some l; rw [hm])
      obtain ⟨u, e1, e2⟩ := atI_rep h2 e
      exact .inl ⟨a, vs, i, u, rfl, rfl, h1, e1, k F H μ d u (Ext.refl F H) hd e2 t⟩
    · split at t
      · rename_i l e0
        obtain ⟨a, vs, rfl, h1, h2⟩ := list_sq hd rx e0
        split at t
        · rename_i d e
          obtain ⟨u, e1, e2⟩ := atI_rep h2 e
          exact .inl ⟨a, vs, i, u, rfl, rfl, h1, e1, k F H μ d u (Ext.refl F H) hd e2 t⟩
        · exact t.elim
      · exact t.elim
  · exact t.elim
theorem de_ix (ha : DE O X a ta) (hb : DE O X b tb) (hs : PlainIx b := by exact fun _ _ => rfl) : DE O X (.Subscript a b pos) (dOp rIxG ta tb) := pe_weak (pe_ix ix_seq ha hb hs) (lop od_ix)
end
/-! ### slices -/
abbrev DTO := DS → Mu → (Option Int → Mu → Prop) → Prop
def LO (K : PySem.W.Frag) (O : Org) (t : DTO) : TO := fun σ H Q => ∃ F δ μ q, Hd K O F H μ ∧ RepS K F H δ σ ∧ t δ μ q ∧ ∀ F' H' μ' o, Ext F H F' H' → Hd K O F' H' μ' → q o μ' → Q o H'
abbrev DO (O : Org) (X : Cx) (e : Option Expr) (t : DTO) : Prop := PO X e (LO X.K O t)
def dNoPart : DTO := fun _ μ q => q none μ
def dPart (t : DTE) : DTO := fun δ μ q => t δ μ fun x μ1 => match x with | .int i => q (some i) μ1 | _ => False
/-- l[lo:hi] -/
def cutD (l : List D) (lo hi : Option Int) : List D := (l.drop (HT.sIx l.length 0 lo)).take (HT.sIx l.length l.length hi - HT.sIx l.length 0 lo)
section
variable {O : Org} {K : PySem.W.Frag} {X : Cx} {a b e : Expr} {ta tb te : DTE} {pos p2 : Pos} {lo hi : Option Expr} {tl tu : DTO}
theorem do_none : DO O X none dNoPart := ⟨fun pins s σ H Q I ⟨F, δ, μ, q, hd, rs, t, k⟩ => po_none.run pins s σ H Q I (k F H μ none (Ext.refl F H) hd t)⟩
theorem do_some (h : DE O X e te) : DO O X (some e) (dPart te) := ⟨fun pins s σ H Q I ⟨F, δ, μ, q, hd, rs, t, k⟩ => (po_some h).run pins s σ H Q I ⟨F, δ, μ, _, hd, rs, t, fun F1 H1 μ1 x v e1 hd1 r1 t1 => by
  cases x <;> first | exact False.elim t1 | skip
  rename_i i
  exact ⟨i, r1, k F1 H1 μ1 (some i) e1 hd1 t1⟩⟩⟩
theorem cut_rep {F : Zo} {H : Hp} {l : List D} {vs : List V} {lo hi : Option Int} (r : RepL K F H l vs) : RepL K F H (cutD l lo hi) (cutV vs lo hi) := by
  unfold cutD cutV
  rw [← r.length]
  exact (r.drop _).take _
def rSlG (x : D) (lo hi : Option Int) (μ : Mu) (q : DK) : Prop := match x with
  | .tup l => if HT.sIx l.length 0 lo = 0 ∧ HT.sIx l.length l.length hi = l.length then False else q (.tup (cutD l lo hi)) μ
  | x => match lstOf μ x with | some l => q (.lst (cutD l lo hi)) μ | none => False
def dSl (te : DTE) (tl tu : DTO) : DTE := fun δ μ q => te δ μ fun x μ1 => tl δ μ1 fun l μ2 => tu δ μ2 fun u μ3 => rSlG x l u μ3 q
theorem de_sl (he : DE O X e te) (hl : DO O X lo tl) (hu : DO O X hi tu) : DE O X (.Subscript e (.Slice lo hi none p2) pos) (dSl te tl tu) :=
  pe_weak (pe_slice (sl_list.or sl_tup) he hl hu) fun σ H Q ⟨F, δ, μ, q, hd, rs, t, k⟩ =>
  ⟨F, δ, μ, _, hd, rs, t, fun F1 H1 μ1 x v e1 hd1 r1 t1 => ⟨F1, δ, μ1, _, hd1, rs.ext e1, t1, fun F2 H2 μ2 o e2 hd2 t2 => ⟨F2, δ, μ2, _, hd2, (rs.ext e1).ext e2, t2, fun F3 H3 μ3 o' e3 hd3 t3 => by
    have r3 := (r1.ext e2).ext e3
    have E := (e1.trans e2).trans e3
    unfold rSlG at t3
    split at t3
    · rename_i l
      obtain ⟨a, vs, rfl, h1, h2⟩ := r3
      split at t3
      · exact t3.elim
      · rename_i hne
        refine .inr ⟨a, vs, rfl, h1.sq, by rw [← h2.length]; exact hne, fun p hp => ?_⟩
        exact k _ _ μ3 (.tup (cutD l o o')) (.ref p) (E.trans (ext_newF hd3 hp)) (hd3.newF hp) ⟨p, _, rfl, .inl ⟨.inr rfl, .inl upd_same⟩, (cut_rep h2).ext (ext_newF hd3 hp)⟩ t3
    · split at t3
      · rename_i l e0
        obtain ⟨a, vs, rfl, h1, h2⟩ := list_sq hd3 r3 e0
        refine .inl ⟨a, vs, rfl, h1, fun p hp => ?_⟩
        exact k _ _ μ3 (.lst (cutD l o o')) (.ref p) (E.trans (ext_newF hd3 hp)) (hd3.newF hp) ⟨p, _, rfl, ⟨.inr rfl, upd_same⟩, (cut_rep h2).ext (ext_newF hd3 hp)⟩ t3
      · exact t3.elim⟩⟩⟩
end
end DL

set_option Elab.async false
set_option linter.all false
set_option maxRecDepth 100000
namespace DL
open PySem L2 PySem.Spec PyProof.Rows

/-! ### targets: the slots that they store -/
structure Agr (ws : List Nat) (σ σ' : L2.St) : Prop where
  len : σ'.length = σ.length
  at_ : ∀ (i : Nat), i ∉ ws → σ'[i]? = σ[i]?
theorem Agr.refl (ws : List Nat) (σ : L2.St) : Agr ws σ σ := ⟨rfl, fun _ _ => rfl⟩
theorem Agr.trans {ws : List Nat} {a b c : L2.St} (h : Agr ws a b) (k : Agr ws b c) : Agr ws a c := ⟨k.len.trans h.len, fun i hi => (k.at_ i hi).trans (h.at_ i hi)⟩
theorem Agr.mono {ws vs : List Nat} {a b : L2.St} (h : Agr ws a b) (k : ∀ i ∈ ws, i ∈ vs) : Agr vs a b := ⟨h.len, fun i hi => h.at_ i fun z => hi (k i z)⟩
theorem Agr.set (σ : L2.St) (i : Nat) (v : Option V) : Agr [i] σ (σ.set i v) := ⟨List.length_set .., fun j hj => List.getElem?_set_ne (by simpa using Ne.symm (show ¬ j = i by simpa using hj))⟩
theorem wipe_get {σ : L2.St} {i : Nat} : ∀ {vs : List Nat}, i ∈ vs → i < σ.length → (wipe σ vs)[i]? = some none
  | v :: vs, h, hl => by
    unfold wipe
    by_cases e : v = i
    · subst e; rw [List.getElem?_set_self (by rw [wipe_length]; exact hl)]
    · rw [List.getElem?_set_ne e]
      rcases List.mem_cons.mp h with z | z
      · exact absurd z.symm e
      · exact wipe_get z hl
theorem wipe_notin {σ : L2.St} {i : Nat} : ∀ {vs : List Nat}, i ∉ vs → (wipe σ vs)[i]? = σ[i]?
  | [], _ => rfl
  | v :: vs, h => by
    have h : ¬ i = v ∧ i ∉ vs := by simpa using h
    unfold wipe
    rw [List.getElem?_set_ne fun z => h.1 z.symm]
    exact wipe_notin h.2
theorem wipe_agr {σ σ' : L2.St} {vs : List Nat} (h : Agr vs σ σ') : wipe σ' vs = wipe σ vs := by
  apply List.ext_getElem?
  intro i
  by_cases hi : i ∈ vs
  · by_cases hl : i < σ.length
    · rw [wipe_get hi hl, wipe_get hi (by rw [h.len]; exact hl)]
    · rw [List.getElem?_eq_none (by rw [wipe_length, h.len]; omega), List.getElem?_eq_none (by rw [wipe_length]; omega)]
  · rw [wipe_notin hi, wipe_notin hi, h.at_ i hi]
theorem wipe_wipe (σ : L2.St) (vs : List Nat) : wipe (wipe σ vs) vs = wipe σ vs := wipe_agr ⟨wipe_length σ vs, fun _ hi => wipe_notin hi⟩
def wipeD (δ : DS) : List Nat → DS
  | [] => δ
  | v :: vs => (wipeD δ vs).set v none
theorem RepS.wipe {K : PySem.W.Frag} {F : Zo} {H : Hp} {δ : DS} {σ : L2.St} (h : RepS K F H δ σ) : ∀ vs : List Nat, RepS K F H (wipeD δ vs) (wipe σ vs)
  | [] => h
  | v :: vs => by
    have ih := RepS.wipe h vs
    unfold wipeD L2.wipe
    refine ⟨by rw [List.length_set, List.length_set, ih.len], fun i d e => ?_⟩
    by_cases z : v = i
    · subst z
      by_cases hl : v < (wipeD δ vs).length
      · rw [List.getElem?_set_self hl] at e; cases e
      · rw [List.getElem?_eq_none (by rw [List.length_set]; omega)] at e; cases e
    · rw [List.getElem?_set_ne z] at e ⊢
      exact ih.at_ i d e

def LGw (K : PySem.W.Frag) (O : Org) (ws : List Nat) (t : DTG) : TG := fun v σ H Q => ∃ F d δ μ q, Hd K O F H μ ∧ RepS K F H δ σ ∧ Rep K F H d v ∧ t d δ μ q ∧ ∀ F' H' μ' δ' σ', Ext F H F' H' → Hd K O F' H' μ' → RepS K F' H' δ' σ' → Agr ws σ σ' → q δ' μ' → Q σ' H'
def LGsw (K : PySem.W.Frag) (O : Org) (ws : List Nat) (t : DTGs) : TGs := fun vs σ H Q => ∃ F ds δ μ q, Hd K O F H μ ∧ RepS K F H δ σ ∧ RepL K F H ds vs ∧ t ds δ μ q ∧ ∀ F' H' μ' δ' σ', Ext F H F' H' → Hd K O F' H' μ' → RepS K F' H' δ' σ' → Agr ws σ σ' → q δ' μ' → Q σ' H'
abbrev DGw (O : Org) (X : Cx) (e : Expr) (ws : List Nat) (t : DTG) : Prop := PG X e (LGw X.K O ws t)
abbrev DGsw (O : Org) (X : Cx) (es : List Expr) (ws : List Nat) (t : DTGs) : Prop := PGs X es (LGsw X.K O ws t)
def dgName (i : Nat) : DTG := fun d δ μ q => q (δ.set i (some d)) μ
def dgNil : DTGs := fun ds δ μ q => match ds with | [] => q δ μ | _ => False
def dgCons (t : DTG) (u : DTGs) : DTGs := fun ds δ μ q => match ds with | d :: r => t d δ μ fun δ' μ' => u r δ' μ' q | [] => False
def dgTup (n : Nat) (t : DTGs) : DTG := fun d δ μ q => match d with
  | .tup l => l.length = n ∧ t l δ μ q
  | d => match lstOf μ d with | some l => l.length = n ∧ t l δ μ q | none => False
/-- o[i] = .. of a list that is written, of a dict -/
def dgItem (to ti : DTE) : DTG := fun d δ μ q => to δ μ fun o μ1 => ti δ μ1 fun i μ2 => match o, i with
  | .adr p, .int k => ∃ l j, μ2 p = some (.lst l) ∧ ixN l.length k = some j ∧ q δ (updM μ2 p (.lst (l.set j d)))
  | _, _ => False
section
variable {O : Org} {X : Cx} {pos : Pos} {e : Expr} {es : List Expr} {ws us : List Nat} {t : DTG} {u : DTGs}
theorem dg_name {i : Nat} {x : Str} (hN : X.N.Nodup) (hi : X.N[i]? = some x) (hx : Loc X.env.scope x) (hf : X.fn x = true ∨ X.env.scope.names.lookup x = some .local := by first | exact .inl rfl | exact .inr rfl | assumption) : DGw O X (.Name x pos) [i] (dgName i) :=
  pg_weak (pg_name hN hi hx hf) fun v σ H Q ⟨F, d, δ, μ, q, hd, rs, r, t, k⟩ => k F H μ _ _ (Ext.refl F H) hd (rs.set r) (Agr.set σ i _) t
theorem dgs_nil : DGsw O X [] [] dgNil := pgs_weak pgs_nil fun vs σ H Q ⟨F, ds, δ, μ, q, hd, rs, r, t, k⟩ => by
  cases ds with
  | nil =>
    obtain rfl : vs = [] := r
    exact ⟨rfl, k F H μ δ σ (Ext.refl F H) hd rs (Agr.refl _ _) t⟩
  | cons _ _ => exact t.elim
theorem dgs_cons (h1 : DGw O X e ws t) (h2 : DGsw O X es us u) (hs : (assignEach (e :: es) X.env).map (·.2) = assign e X.env :: (assignEach es X.env).map (·.2) := by rfl) : DGsw O X (e :: es) (ws ++ us) (dgCons t u) :=
  pgs_weak (pgs_cons h1 h2 hs) fun vs σ H Q ⟨F, ds, δ, μ, q, hd, rs, r, t, k⟩ => by
  cases ds with
  | nil => exact t.elim
  | cons d ds =>
    obtain ⟨v, vr, rfl, r1, r2⟩ := r
    refine ⟨v, vr, rfl, F, d, δ, μ, _, hd, rs, r1, t, fun F1 H1 μ1 δ1 σ1 e1 hd1 rs1 a1 t1 => ?_⟩
    exact ⟨F1, ds, δ1, μ1, q, hd1, rs1, r2.ext e1, t1, fun F2 H2 μ2 δ2 σ2 e2 hd2 rs2 a2 t2 =>
      k F2 H2 μ2 δ2 σ2 (e1.trans e2) hd2 rs2 ((a1.mono fun i hi => List.mem_append_left _ hi).trans (a2.mono fun i hi => List.mem_append_right _ hi)) t2⟩
theorem pg_or {t1 t2 : TG} (h1 : PG X e t1) (h2 : PG X e t2) : PG X e (fun v σ H Q => t1 v σ H Q ∨ t2 v σ H Q) := ⟨fun pins s σ H v u Q I r q => q.elim (h1.run pins s σ H v u Q I r) (h2.run pins s σ H v u Q I r)⟩
theorem dg_tup {n : Nat} {k0 : Nat} (hc : X.calm = true) (h : DGsw O X es us u) (hn : (assignEach es X.env).length = n := by rfl) (hst : (assignEach es X.env).findIdx? (·.1) = none := by rfl) : DGw O X (.Tuple es k0 pos) us (dgTup n u) :=
  pg_weak (pg_or (pg_tup hc h hn hst) (pg_unl hc h hn hst)) fun v σ H Q ⟨F, d, δ, μ, q, hd, rs, r, t, k⟩ => by
    unfold dgTup at t
    split at t
    · rename_i l
      obtain ⟨a, vs, rfl, h1, h2⟩ := r
      exact .inl ⟨a, vs, rfl, h1.sq, by rw [← h2.length]; exact t.1, F, l, δ, μ, q, hd, rs, h2, t.2, k⟩
    · split at t
      · rename_i l e0
        obtain ⟨a, vs, rfl, h1, h2⟩ := list_sq hd r e0
        exact .inr ⟨a, vs, rfl, h1, by rw [← h2.length]; exact t.1, F, l, δ, μ, q, hd, rs, h2, t.2, k⟩
      · exact t.elim
theorem dg_item {o i : Expr} {to ti : DTE} (ho : DE O X o to) (hi : DE O X i ti)
    (ha : ∀ v, assign (.Subscript o i pos) X.env v = (do
      let ov ← holding [v] (eval o X.env)
      let iv ← holding [v, ov] (eval i X.env)
      standAt pos
      holding [v, ov, iv] (setItem ov iv v)
      release [v, ov, iv] []) := by intro _; rfl) : DGw O X (.Subscript o i pos) [] (dgItem to ti) :=
  pg_weak (pg_sub ho hi set_list ha) fun v σ H Q ⟨F, d, δ, μ, q, hd, rs, r, t, k⟩ =>
    ⟨F, δ, μ, _, hd, rs, t, fun F1 H1 μ1 o vo e1 hd1 r1 t1 => ⟨F1, δ, μ1, _, hd1, rs.ext e1, t1, fun F2 H2 μ2 i vi e2 hd2 r2 t2 => by
      have r1 := r1.ext e2
      match o, i, t2, r1, r2 with
      | .adr p, .int kk, t2, r1, r2 =>
      obtain rfl : vo = .ref p := r1
      obtain rfl : vi = .int kk := r2
      obtain ⟨l, j, hm, hj, t2⟩ := t2
      obtain ⟨_, vs, h1, h2⟩ := hd2.own p _ hm
      refine ⟨p, vs, kk, j, rfl, rfl, h1, by rw [← h2.length]; exact hj, ?_⟩
      have ex := ext_set (o := HO.lst (vs.set j v)) hd2 hm
      exact k F2 _ _ δ σ ((e1.trans e2).trans ex) (hd2.set (m' := .lst (l.set j d)) hm ⟨_, upd_same, (h2.ext ex).set j (((r.ext e1).ext e2).ext ex)⟩) (((rs.ext e1).ext e2).ext ex) (Agr.refl _ _) t2⟩⟩
end

/-! ### statements -/
section
variable {O : Org} {X : Cx} {st : Stmt} {rest : List Stmt} {t u : DTS} {e : Expr} {te : DTE} {pos : Pos}
def dNext : DTS := fun E δ μ => E.nx δ μ
def dSeq (t u : DTS) : DTS := fun E δ μ => t { E with nx := u E } δ μ
theorem dss_nil : DSs O X [] dNext := pss_weak pss_nil fun Z σ H ⟨F, δ, μ, E, hd, rs, t, L⟩ => L.nx F H μ δ σ (Ext.refl F H) hd rs t
theorem lseq {K : PySem.W.Frag} : ∀ Z σ H, LS K O (dSeq t u) Z σ H → tSeq (LS K O t) (LS K O u) Z σ H := fun Z σ H ⟨F, δ, μ, E, hd, rs, t, L⟩ =>
  ⟨F, δ, μ, _, hd, rs, t, ⟨fun F' H' μ' δ' σ' e1 hd1 rs1 t1 => ⟨F', δ', μ', E, hd1, rs1, t1, L.ext e1⟩, L.rt, L.bk, L.ct⟩⟩
theorem dss_cons (h1 : DSt O X st t) (h2 : DSs O X rest u) : DSs O X (st :: rest) (dSeq t u) := pss_weak (pss_cons h1 h2) lseq
theorem dss_one (h1 : DSt O X st t) : DSs O X [st] t := pss_one h1
theorem ds_pass : DSt O X (.Pass pos) dNext := ps_weak ps_pass fun Z σ H ⟨F, δ, μ, E, hd, rs, t, L⟩ => L.nx F H μ δ σ (Ext.refl F H) hd rs t
def dBreak : DTS := fun E δ μ => E.bk δ μ
def dCont : DTS := fun E δ μ => E.ct δ μ
theorem ds_break : DSt O X (.Break pos) dBreak := ps_weak ps_break fun Z σ H ⟨F, δ, μ, E, hd, rs, t, L⟩ => L.bk F H μ δ σ (Ext.refl F H) hd rs t
theorem ds_continue : DSt O X (.Continue pos) dCont := ps_weak ps_continue fun Z σ H ⟨F, δ, μ, E, hd, rs, t, L⟩ => L.ct F H μ δ σ (Ext.refl F H) hd rs t
def dDrop (te : DTE) : DTS := fun E δ μ => te δ μ fun _ μ1 => E.nx δ μ1
theorem ds_expr (he : DE O X e te) (hs : swapsWith e none pos.line X.env = pure false := by rfl) : DSt O X (.Expr e pos) (dDrop te) := ps_weak (ps_expr he hs) fun Z σ H ⟨F, δ, μ, E, hd, rs, t, L⟩ =>
  ⟨F, δ, μ, _, hd, rs, t, fun F1 H1 μ1 d v e1 hd1 r1 t1 => L.nx F1 H1 μ1 δ σ e1 hd1 (rs.ext e1) t1⟩
def dRet (te : DTE) : DTS := fun E δ μ => te δ μ E.rt
theorem ds_ret (he : DE O X e te) : DSt O X (.Return (some e) pos) (dRet te) := ps_weak (ps_ret he) fun Z σ H ⟨F, δ, μ, E, hd, rs, t, L⟩ =>
  ⟨F, δ, μ, _, hd, rs, t, fun F1 H1 μ1 d v e1 hd1 r1 t1 => L.rt F1 H1 μ1 d v e1 hd1 r1 t1⟩
def dRetN : DTS := fun E _ μ => E.rt .non μ
theorem ds_retN : DSt O X (.Return none pos) dRetN := ps_weak ps_retN fun Z σ H ⟨F, δ, μ, E, hd, rs, t, L⟩ => L.rt F H μ .non .non (Ext.refl F H) hd rfl t
def dIfS (c : DTT) (t u : DTS) : DTS := fun E δ μ => c δ μ fun b μ1 => if b = true then t E δ μ1 else u E δ μ1
theorem ds_if {c : Expr} {a b : List Stmt} {tc : DTT} (hc : DT O X c tc) (ha : DSs O X a t) (hb : DSs O X b u) : DSt O X (.If c a b pos) (dIfS tc t u) := ps_weak (ps_if hc ha hb) fun Z σ H ⟨F, δ, μ, E, hd, rs, t, L⟩ =>
  ⟨F, δ, μ, _, hd, rs, t, fun F1 H1 μ1 b e1 hd1 t1 => by
    cases b with
    | true =>
      rw [if_pos rfl] at t1 ⊢
      exact ⟨F1, δ, μ1, E, hd1, rs.ext e1, t1, L.ext e1⟩
    | false =>
      rw [if_neg Bool.false_ne_true] at t1 ⊢
      exact ⟨F1, δ, μ1, E, hd1, rs.ext e1, t1, L.ext e1⟩⟩
def dAsg (te : DTE) (g : DTG) : DTS := fun E δ μ => te δ μ fun d μ1 => g d δ μ1 E.nx
theorem ds_asg {tg e : Expr} {te : DTE} {g : DTG} {ws : List Nat} (he : DE O X e te) (hg : DGw O X tg ws g) (hs : swapsWithSole [tg] e pos.line X.env = pure false := by rfl) (hw : swappedStores [tg] e X.env = pure none := by rfl)
    (h1 : (assignEach [tg] X.env).map (·.2) = [assign tg X.env] := by rfl) : DSt O X (.Assign [tg] e pos) (dAsg te g) := ps_weak (ps_asg he hg hs hw h1) fun Z σ H ⟨F, δ, μ, E, hd, rs, t, L⟩ =>
  ⟨F, δ, μ, _, hd, rs, t, fun F1 H1 μ1 d v e1 hd1 r1 t1 => ⟨F1, d, δ, μ1, _, hd1, rs.ext e1, r1, t1, fun F2 H2 μ2 δ2 σ2 e2 hd2 rs2 _ t2 => L.nx F2 H2 μ2 δ2 σ2 (e1.trans e2) hd2 rs2 t2⟩⟩
/-- a, b = x, y -/
def dPar (i j : Nat) (ta : DTA) : DTS := fun E δ μ => ta δ μ fun ds μ1 => match ds with | [d, e] => E.nx ((δ.set i (some d)).set j (some e)) μ1 | _ => False
theorem repL2 {K : PySem.W.Frag} {F : Zo} {H : Hp} {d e : D} {vs : List V} (r : RepL K F H [d, e] vs) : ∃ v w, vs = [v, w] ∧ Rep K F H d v ∧ Rep K F H e w := by
  obtain ⟨v, r1, rfl, h1, w, r2, rfl, h2, h3⟩ := r
  have h3 : r2 = [] := h3
  subst h3
  exact ⟨v, w, rfl, h1, h2⟩
theorem ds_par {i j : Nat} {x y : Str} {a b : Expr} {ta : DTA} {px py pt : Pos} {kt k2 pt2} (hc : X.calm = true) (hN : X.N.Nodup) (hi : X.N[i]? = some x) (hj : X.N[j]? = some y) (hij : i ≠ j)
    (hx : X.env.scope.names.lookup x = some .local) (hy : X.env.scope.names.lookup y = some .local) (ha : DA O X [a, b] ta)
    (hw : swappedStores [.Tuple [.Name x px, .Name y py] kt pt] (.Tuple [a, b] k2 pt2) X.env = pure (some [x, y]) := by rfl)
    (hs : swapsWithSole [.Tuple [.Name x px, .Name y py] kt pt] (.Tuple [a, b] k2 pt2) pos.line X.env = pure false := by rfl) :
    DSt O X (.Assign [.Tuple [.Name x px, .Name y py] kt pt] (.Tuple [a, b] k2 pt2) pos) (dPar i j ta) := ps_weak (ps_par hc hN hi hj hij hx hy ha hw hs) fun Z σ H ⟨F, δ, μ, E, hd, rs, t, L⟩ =>
  ⟨F, δ, μ, _, hd, rs, t, fun F1 H1 μ1 ds vs e1 hd1 r1 t1 => by
    match ds, t1 with
    | [d, e], t1 =>
      obtain ⟨v, w, rfl, h1, h2⟩ := repL2 r1
      exact ⟨v, w, rfl, L.nx F1 H1 μ1 _ _ e1 hd1 (((rs.ext e1).set h1).set h2) t1⟩⟩
def dPar3 (i j l : Nat) (ta : DTA) : DTS := fun E δ μ => ta δ μ fun ds μ1 => match ds with | [d, e, f] => E.nx (((δ.set i (some d)).set j (some e)).set l (some f)) μ1 | _ => False
theorem ds_par3 {i j l : Nat} {x y z : Str} {a b c : Expr} {ta : DTA} {px py pz pt : Pos} {kt k2 pt2} (hc : X.calm = true) (hN : X.N.Nodup) (hi : X.N[i]? = some x) (hj : X.N[j]? = some y) (hl : X.N[l]? = some z) (hij : i ≠ j) (hil : i ≠ l) (hjl : j ≠ l)
    (hx : X.env.scope.names.lookup x = some .local) (hy : X.env.scope.names.lookup y = some .local) (hz : X.env.scope.names.lookup z = some .local) (ha : DA O X [a, b, c] ta)
    (hw : swappedStores [.Tuple [.Name x px, .Name y py, .Name z pz] kt pt] (.Tuple [a, b, c] k2 pt2) X.env = pure (some [x, y, z]) := by rfl)
    (hs : swapsWithSole [.Tuple [.Name x px, .Name y py, .Name z pz] kt pt] (.Tuple [a, b, c] k2 pt2) pos.line X.env = pure false := by rfl) :
    DSt O X (.Assign [.Tuple [.Name x px, .Name y py, .Name z pz] kt pt] (.Tuple [a, b, c] k2 pt2) pos) (dPar3 i j l ta) := ps_weak (ps_par3 hc hN hi hj hl hij hil hjl hx hy hz ha hw hs) fun Z σ H ⟨F, δ, μ, E, hd, rs, t, L⟩ =>
  ⟨F, δ, μ, _, hd, rs, t, fun F1 H1 μ1 ds vs e1 hd1 r1 t1 => by
    match ds, t1 with
    | [d, e, f], t1 =>
      obtain ⟨v, r', rfl, h1, r2⟩ := r1
      obtain ⟨w, w2, rfl, h2, h3⟩ := repL2 r2
      exact ⟨v, w, w2, rfl, L.nx F1 H1 μ1 _ _ e1 hd1 ((((rs.ext e1).set h1).set h2).set h3) t1⟩⟩
/-- x += e -/
def dAug (i : Nat) (te : DTE) (f : Int → Int → Int) : DTS := fun E δ μ => match δ[i]? with
  | some (some (.int x)) => te δ μ fun d μ1 => match d with | .int y => E.nx (δ.set i (some (.int (f x y)))) μ1 | _ => False
  | _ => False
theorem ds_aug {i : Nat} {x : Str} {op : Operator} {f : Int → Int → Int} {pos' : Pos} (hN : X.N.Nodup) (hi : X.N[i]? = some x) (hx : Loc X.env.scope x) (he : DE O X e te) (ho : PIp X op (ipI f)) (hf : X.fn x = true ∨ X.env.scope.names.lookup x = some .local := by first | exact .inl rfl | exact .inr rfl | assumption) :
    DSt O X (.AugAssign (.Name x pos') op e pos) (dAug i te f) := ps_weak (ps_aug hN hi hx he ho hf) fun Z σ H ⟨F, δ, μ, E, hd, rs, t, L⟩ => by
  unfold dAug at t
  split at t
  · rename_i x0 hx0
    obtain ⟨v, h1, h2⟩ := rs.at_ i _ hx0
    obtain rfl : v = .int x0 := h2
    refine ⟨_, h1, F, δ, μ, _, hd, rs, t, fun F1 H1 μ1 d v e1 hd1 r1 t1 => ?_⟩
    cases d <;> first | exact False.elim t1 | skip
    rename_i y
    obtain rfl : v = .int y := r1
    exact ⟨x0, y, rfl, rfl, L.nx F1 H1 μ1 _ _ e1 hd1 ((rs.ext e1).set (d := .int (f x0 y)) rfl) t1⟩
  · exact t.elim
end
end DL

set_option Elab.async false
set_option linter.all false
set_option maxRecDepth 100000
namespace DL
open PySem L2 PySem.Spec PyProof.Rows

/-! ### what is walked: a list of data, told ahead; keep: what must stay so through the walk -/
structure ItOk (K : PySem.W.Frag) (O : Org) (F1 : Zo) (H1 : Hp) (items : List D) (keep : Mu → Prop) (J : It) : Prop where
  go : ∀ i F2 H2 μ2, Ext F1 H1 F2 H2 → Hd K O F2 H2 μ2 → keep μ2 → i < items.length → J.go i H2
  yld : ∀ i F2 H2 μ2 x H3, Ext F1 H1 F2 H2 → Hd K O F2 H2 μ2 → keep μ2 → i < items.length → J.yld i H2 x H3 → ∃ F3 d, Ext F2 H2 F3 H3 ∧ Hd K O F3 H3 μ2 ∧ items[i]? = some d ∧ Rep K F3 H3 d x
  stop : ∀ i F2 H2 μ2, Ext F1 H1 F2 H2 → Hd K O F2 H2 μ2 → keep μ2 → items.length ≤ i → J.stop i H2
abbrev DTI := DS → Mu → (List D → (Mu → Prop) → Mu → Prop) → Prop
def LI (K : PySem.W.Frag) (O : Org) (t : DTI) : TI := fun σ H R => ∃ F δ μ q, Hd K O F H μ ∧ RepS K F H δ σ ∧ t δ μ q ∧ ∀ F' H' μ' items keep J, Ext F H F' H' → Hd K O F' H' μ' → ItOk K O F' H' items keep J → q items keep μ' → R J H'
abbrev DI (O : Org) (X : Cx) (tg iter : Expr) (t : DTI) : Prop := PI X tg iter (LI X.K O t)
theorem pi_weak {X : Cx} {tg e : Expr} {t t' : TI} (h : PI X tg e t) (w : ∀ σ H R, t' σ H R → t σ H R) : PI X tg e t' := ⟨fun pins s σ H R I q => h.run pins s σ H R I (w σ H R q)⟩
theorem pi_or {X : Cx} {tg e : Expr} {t1 t2 : TI} (h1 : PI X tg e t1) (h2 : PI X tg e t2) : PI X tg e (fun σ H R => t1 σ H R ∨ t2 σ H R) := ⟨fun pins s σ H R I q => q.elim (h1.run pins s σ H R I) (h2.run pins s σ H R I)⟩

def intsD (lo : Int) : Nat → List D
  | n => (List.range n).map fun i => D.int (lo + (i : Nat))
section
variable {O : Org} {K : PySem.W.Frag} {F : Zo} {H : Hp} {μ : Mu}
theorem itok_range (lo : Int) (n : Nat) : ItOk K O F H (intsD lo n) (fun _ => True) (Itr lo n) := by
  have hl : (intsD lo n).length = n := by simp [intsD]
  refine ⟨fun i F2 H2 μ2 _ _ _ h => by rw [hl] at h; exact h, fun i F2 H2 μ2 x H3 e hd _ h ⟨h1, h2⟩ => ?_, fun i F2 H2 μ2 _ _ _ h => by rw [hl] at h; exact h⟩
  subst h1 h2
  rw [hl] at h
  exact ⟨F2, .int (lo + i), Ext.refl _ _, hd, by simp [intsD, h], rfl⟩
theorem sq_ext {F2 : Zo} {H2 : Hp} {a : Addr} {vs : List V} (e : Ext F H F2 H2) (h : FzR K F H a vs) : SqL K H2 a vs := (h.ext e).sq
theorem list_uniq {a : Addr} {xs vs : List V} (h : SqL K H a xs) (k : SqL K H a vs) (one : ∀ ys, SqL K H a ys → ys = vs) : xs = vs := one xs h
/-- a list that is read off at each turn -/
theorem itok_list {items : List D} {keep : Mu → Prop} {a : Addr} {vs : List V} (hr : RepL K F H items vs)
    (st : ∀ F2 H2 μ2, Ext F H F2 H2 → Hd K O F2 H2 μ2 → keep μ2 → SqL K H2 a vs ∨ ∃ ws, SqL K H2 a ws ∧ RepL K F2 H2 items ws) : ItOk K O F H items keep (Itl K a) := by
  have q : ∀ F2 H2 μ2, Ext F H F2 H2 → Hd K O F2 H2 μ2 → keep μ2 → ∃ ws, SqL K H2 a ws ∧ RepL K F2 H2 items ws := fun F2 H2 μ2 e hd k => by
    rcases st F2 H2 μ2 e hd k with h | h
    · exact ⟨vs, h, hr.ext e⟩
    · exact h
  refine ⟨fun i F2 H2 μ2 e hd k h => ?_, fun i F2 H2 μ2 x H3 e hd k h ⟨h1, h2⟩ => ?_, fun i F2 H2 μ2 e hd k h => ?_⟩
  · obtain ⟨ws, h1, h2⟩ := q F2 H2 μ2 e hd k
    have hl : i < ws.length := by rw [← h2.length]; exact h
    exact ⟨ws, ws[i], h1, by simp [hl]⟩
  · subst h1
    obtain ⟨ws, h1, hw⟩ := q F2 _ μ2 e hd k
    obtain ⟨d, e1, e2⟩ := hw.get' (h2 ws h1)
    exact ⟨F2, d, Ext.refl _ _, hd, e1, e2⟩
  · obtain ⟨ws, h1, h2⟩ := q F2 H2 μ2 e hd k
    exact ⟨ws, h1, by rw [← h2.length]; exact h⟩
theorem itok_tup {items : List D} {a : Addr} {vs : List V} (hr : RepL K F H items vs) (hz : FzT K F H a vs) : ItOk K O F H items (fun _ => True) (Itt K a) := by
  refine ⟨fun i F2 H2 μ2 e hd k h => ?_, fun i F2 H2 μ2 x H3 e hd k h ⟨h1, h2⟩ => ?_, fun i F2 H2 μ2 e hd k h => ?_⟩
  · have hl : i < vs.length := by rw [← hr.length]; exact h
    exact ⟨vs, vs[i], (hz.ext e).sq, by simp [hl]⟩
  · subst h1
    obtain ⟨d, e1, e2⟩ := (hr.ext e).get' (h2 vs (hz.ext e).sq)
    exact ⟨F2, d, Ext.refl _ _, hd, e1, e2⟩
  · exact ⟨vs, (hz.ext e).sq, by rw [← hr.length]; exact h⟩
end
/-- a list, a tuple -/
def diSeq (te : DTE) : DTI := fun δ μ q => te δ μ fun d μ1 => match d with
  | .tup l => q l (fun _ => True) μ1
  | .lst l => q l (fun _ => True) μ1
  | .rol l => q l (fun _ => True) μ1
  | .adr p => ∃ l, μ1 p = some (.lst l) ∧ q l (fun μ => μ p = some (.lst l)) μ1
  | _ => False
def diRng1 (ta : DTA) : DTI := fun δ μ q => ta δ μ fun ds μ1 => match ds with | [.int j] => (-(2 ^ 62) ≤ j ∧ j < 2 ^ 62) ∧ q (intsD 0 j.toNat) (fun _ => True) μ1 | _ => False
def diRng2 (ta : DTA) : DTI := fun δ μ q => ta δ μ fun ds μ1 => match ds with | [.int i, .int j] => (-(2 ^ 62) ≤ i ∧ i < 2 ^ 62 ∧ -(2 ^ 62) ≤ j ∧ j < 2 ^ 62) ∧ q (intsD i (j - i).toNat) (fun _ => True) μ1 | _ => False
/-- a list or a tuple, told behind its evaluation -/
def iSeq (K : PySem.W.Frag) (tl : TE) : TI := fun σ H R => tl σ H fun x H1 => ∃ a, x = .ref a ∧ (((∃ xs, SqL K H1 a xs) ∧ R (Itl K a) H1) ∨ ((∃ xs, SqT K H1 a xs) ∧ R (Itt K a) H1))
theorem pi_seq {X : Cx} {tg l : Expr} {tl : TE} (hl : PE X l tl) : PI X tg l (iSeq X.K tl) := by
  constructor
  intro pins s σ H R I h
  refine thn (hl.run pins s σ H _ I h) ?_
  rintro v s1 ⟨x, H1, I1, r1, a, e, hq⟩
  subst e
  cases r1
  have new := I1.hok.fresh (Nat.le_refl s1.heap.objs.size)
  have fp : ∀ b ∈ [s1.heap.objs.size], FpOk X pins H1 b := by
    intro b hb
    rw [List.mem_singleton.mp hb]
    exact I1.fpOk (Nat.le_refl _) new
  rcases hq with ⟨⟨xs, hx⟩, q⟩ | ⟨⟨xs, hx⟩, q⟩
  · obtain ⟨its, _, pl, _⟩ := I1.list hx
    refine wpAny_pyIter_list pl.isList ?_
    exact ⟨s1.heap.objs.size, [s1.heap.objs.size], _, Itl X.K a, H1, rfl, I1.kept (t' := s1.toks) (fun _ _ z => Heap.get?_push_of_some _ z), turn_list a _, ⟨_, Heap.get?_push_size _ rfl, rfl, rfl⟩, fp, q⟩
  · obtain ⟨its, _, pl, _⟩ := I1.tuple hx
    refine wpAny_pyIter_tuple (items := its.toArray) pl ?_
    exact ⟨s1.heap.objs.size, [s1.heap.objs.size], _, Itt X.K a, H1, rfl, I1.kept (t' := s1.toks) (fun _ _ z => Heap.get?_push_of_some _ z), turn_tuple a _, ⟨_, Heap.get?_push_size _ rfl, rfl, rfl⟩, fp, q⟩
section
variable {O : Org} {X : Cx} {tg e a b : Expr} {te : DTE} {ta : DTA} {pos p : Pos}
theorem di_seq (he : DE O X e te) : DI O X tg e (diSeq te) := pi_weak (pi_seq he) fun σ H R ⟨F, δ, μ, q, hd, rs, t, k⟩ =>
  ⟨F, δ, μ, _, hd, rs, t, fun F1 H1 μ1 d v e1 hd1 r1 t1 => by
    cases d <;> first | exact False.elim t1 | skip
    · rename_i p
      obtain rfl : v = .ref p := r1
      obtain ⟨l, hm, t1⟩ := t1
      obtain ⟨_, vs, h1, h2⟩ := hd1.own p _ hm
      refine ⟨p, rfl, .inl ⟨⟨vs, SqL.of h1⟩, k F1 H1 μ1 l _ _ e1 hd1 (itok_list h2 fun F2 H2 μ2 e2 hd2 k2 => ?_) t1⟩⟩
      obtain ⟨_, ws, h3, h4⟩ := hd2.own p _ k2
      exact .inr ⟨ws, SqL.of h3, h4⟩
    · obtain ⟨a, vs, rfl, h1, h2⟩ := r1
      exact ⟨a, rfl, .inr ⟨⟨vs, h1.sq⟩, k F1 H1 μ1 _ _ _ e1 hd1 (itok_tup h2 h1) t1⟩⟩
    · obtain ⟨a, vs, rfl, h1, h2⟩ := r1
      exact ⟨a, rfl, .inl ⟨⟨vs, SqL.of h1.2⟩, k F1 H1 μ1 _ _ _ e1 hd1 (itok_list h2 fun F2 H2 μ2 e2 hd2 k2 => .inl (SqL.of ((e2.hf h1.1).trans h1.2))) t1⟩⟩
    · obtain ⟨a, vs, rfl, h1, h2⟩ := r1
      exact ⟨a, rfl, .inl ⟨⟨vs, h1.sq⟩, k F1 H1 μ1 _ _ _ e1 hd1 (itok_list h2 fun F2 H2 μ2 e2 hd2 k2 => .inl (h1.ext e2).sq) t1⟩⟩⟩
theorem di_range1 (hg : Gl X "range") (hm : X.mg "range" = none) (ha : DA O X [a] ta) (hs : starEach [a] X.env = [(false, eval a X.env)] := by rfl) : DI O X tg (.Call (.Name "range" p) [a] [] pos) (diRng1 ta) :=
  pi_weak (pi_range1 hg hm ha hs) fun σ H R ⟨F, δ, μ, q, hd, rs, t, k⟩ => ⟨F, δ, μ, _, hd, rs, t, fun F1 H1 μ1 ds vs e1 hd1 r1 t1 => by
    match ds, t1 with
    | [.int j], t1 =>
      obtain ⟨v, r', rfl, h1, h2⟩ := r1
      obtain rfl : v = .int j := h1
      obtain rfl : r' = [] := h2
      exact ⟨j, rfl, t1.1.1, t1.1.2, k F1 H1 μ1 _ _ _ e1 hd1 (itok_range 0 j.toNat) t1.2⟩⟩
theorem di_range2 (hg : Gl X "range") (hm : X.mg "range" = none) (ha : DA O X [a, b] ta) (hs : starEach [a, b] X.env = [(false, eval a X.env), (false, eval b X.env)] := by rfl) (hs2 : starEach [b] X.env = [(false, eval b X.env)] := by rfl) :
    DI O X tg (.Call (.Name "range" p) [a, b] [] pos) (diRng2 ta) :=
  pi_weak (pi_range2 hg hm ha hs hs2) fun σ H R ⟨F, δ, μ, q, hd, rs, t, k⟩ => ⟨F, δ, μ, _, hd, rs, t, fun F1 H1 μ1 ds vs e1 hd1 r1 t1 => by
    match ds, t1 with
    | [.int i, .int j], t1 =>
      obtain ⟨v, w, rfl, h1, h2⟩ := repL2 r1
      obtain rfl : v = .int i := h1
      obtain rfl : w = .int j := h2
      exact ⟨i, j, rfl, t1.1, k F1 H1 μ1 _ _ _ e1 hd1 (itok_range i (j - i).toNat) t1.2⟩⟩
end

/-! ### for, while -/
def dFor (ti : DTI) (g : DTG) (tb : DTS) : DTS := fun E δ μ => ti δ μ fun items keep μ1 => ∃ P : Nat → DS → Mu → Prop, P 0 δ μ1 ∧ (∀ i δ μ, i ≤ items.length → P i δ μ → keep μ) ∧
  (∀ i d δ μ, items[i]? = some d → P i δ μ → g d δ μ fun δ2 μ2 => tb { E with nx := P (i + 1), ct := P (i + 1), bk := E.nx } δ2 μ2) ∧ ∀ δ μ, P items.length δ μ → E.nx δ μ
def dWhile (c : DTT) (tb : DTS) : DTS := fun E δ μ => ∃ P : Nat → DS → Mu → Prop, (∃ m, P m δ μ) ∧ ∀ m δ μ, P m δ μ →
  c δ μ fun b μ1 => if b = true then tb { E with nx := fun δ' μ' => ∃ m', m' < m ∧ P m' δ' μ', ct := fun δ' μ' => ∃ m', m' < m ∧ P m' δ' μ', bk := E.nx } δ μ1 else E.nx δ μ1
section
variable {O : Org} {X : Cx} {tg iter c : Expr} {ti : DTI} {g : DTG} {tb : DTS} {ws : List Nat} {body : List Stmt} {pos : Pos} {tc : DTT}
theorem ds_for (hp : PassesOwn (model X.prog X.w) X.A X.env X.xe) (hc : X.calm = true) (hi : DI O X tg iter ti) (hg : DGw O X tg ws g) (hb : DSs O X body tb)
    (hs : ∀ x, foldedSetIterable iter X.env x = pure x := by intro _; rfl) : DSt O X (.For tg iter body [] pos) (dFor ti g tb) := ps_weak (ps_for hp hc hi hg hb hs) fun Z σ H ⟨F, δ, μ, E, hd, rs, t, L⟩ =>
  ⟨F, δ, μ, _, hd, rs, t, fun F1 H1 μ1 items keep J e1 hd1 ok ⟨P, p0, pk, step, fin⟩ => by
    refine ⟨fun i m σ' H' => m = items.length - i ∧ i ≤ items.length ∧ ∃ F2 δ2 μ2, Ext F1 H1 F2 H' ∧ Hd X.K O F2 H' μ2 ∧ RepS X.K F2 H' δ2 σ' ∧ P i δ2 μ2, ⟨_, rfl, Nat.zero_le _, F1, δ, μ1, Ext.refl _ _, hd1, rs.ext e1, p0⟩, ?_⟩
    rintro i m σ2 H2 ⟨rfl, hi, F2, δ2, μ2, e2, hd2, rs2, p2⟩
    have kk := pk i δ2 μ2 hi p2
    by_cases hlt : i < items.length
    · refine .inr ⟨ok.go i F2 H2 μ2 e2 hd2 kk hlt, fun σ' H' => ∃ F2 δ2 μ2, Ext F1 H1 F2 H' ∧ Hd X.K O F2 H' μ2 ∧ RepS X.K F2 H' δ2 σ' ∧ P (i + 1) δ2 μ2, fun σ' H' q => ⟨_, by omega, rfl, hlt, q⟩, fun x H3 hy => ?_⟩
      obtain ⟨F3, d, e3, hd3, hd', r3⟩ := ok.yld i F2 H2 μ2 x H3 e2 hd2 kk hlt hy
      refine ⟨F3, d, δ2, μ2, _, hd3, rs2.ext e3, r3, step i d δ2 μ2 hd' p2, fun F4 H4 μ4 δ4 σ4 e4 hd4 rs4 _ t4 => ?_⟩
      have e14 := (e2.trans e3).trans e4
      exact ⟨F4, δ4, μ4, _, hd4, rs4, t4, ⟨fun F5 H5 μ5 δ5 σ5 e5 hd5 rs5 q => ⟨F5, δ5, μ5, e14.trans e5, hd5, rs5, q⟩, fun F5 H5 μ5 d5 v5 e5 => L.rt F5 H5 μ5 d5 v5 ((e1.trans e14).trans e5),
        fun F5 H5 μ5 δ5 σ5 e5 => L.nx F5 H5 μ5 δ5 σ5 ((e1.trans e14).trans e5), fun F5 H5 μ5 δ5 σ5 e5 hd5 rs5 q => ⟨F5, δ5, μ5, e14.trans e5, hd5, rs5, q⟩⟩⟩
    · have e : i = items.length := by omega
      subst e
      exact .inl ⟨ok.stop _ F2 H2 μ2 e2 hd2 kk (Nat.le_refl _), L.nx F2 H2 μ2 δ2 σ2 (e1.trans e2) hd2 rs2 (fin δ2 μ2 p2)⟩⟩
theorem ds_while (hp : PassesOwn (model X.prog X.w) X.A X.env X.xe) (hc : DT O X c tc) (hb : DSs O X body tb) : DSt O X (.While c body [] pos) (dWhile tc tb) := ps_weak (ps_while hp hc hb) fun Z σ H ⟨F, δ, μ, E, hd, rs, ⟨P, ⟨m0, p0⟩, step⟩, L⟩ => by
  refine ⟨fun m σ' H' => ∃ F2 δ2 μ2, Ext F H F2 H' ∧ Hd X.K O F2 H' μ2 ∧ RepS X.K F2 H' δ2 σ' ∧ P m δ2 μ2, ⟨m0, F, δ, μ, Ext.refl _ _, hd, rs, p0⟩, ?_⟩
  rintro m σ2 H2 ⟨F2, δ2, μ2, e2, hd2, rs2, p2⟩
  refine ⟨F2, δ2, μ2, _, hd2, rs2, step m δ2 μ2 p2, fun F3 H3 μ3 b e3 hd3 t3 => ?_⟩
  have e13 := e2.trans e3
  cases b with
  | true =>
    rw [if_pos rfl] at t3
    dsimp only
    rw [if_pos rfl]
    refine ⟨fun σ' H' => ∃ F2 δ2 μ2, Ext F H F2 H' ∧ Hd X.K O F2 H' μ2 ∧ RepS X.K F2 H' δ2 σ' ∧ ∃ m', m' < m ∧ P m' δ2 μ2, fun σ' H' ⟨F5, δ5, μ5, e5, hd5, rs5, m', hm, q⟩ => ⟨m', hm, F5, δ5, μ5, e5, hd5, rs5, q⟩, ?_⟩
    exact ⟨F3, δ2, μ3, _, hd3, rs2.ext e3, t3, ⟨fun F5 H5 μ5 δ5 σ5 e5 hd5 rs5 q => ⟨F5, δ5, μ5, e13.trans e5, hd5, rs5, q⟩, fun F5 H5 μ5 d5 v5 e5 => L.rt F5 H5 μ5 d5 v5 (e13.trans e5),
      fun F5 H5 μ5 δ5 σ5 e5 => L.nx F5 H5 μ5 δ5 σ5 (e13.trans e5), fun F5 H5 μ5 δ5 σ5 e5 hd5 rs5 q => ⟨F5, δ5, μ5, e13.trans e5, hd5, rs5, q⟩⟩⟩
  | false =>
    rw [if_neg Bool.false_ne_true] at t3
    dsimp only
    rw [if_neg Bool.false_ne_true]
    exact L.nx F3 H3 μ3 δ2 σ2 e13 hd3 (rs2.ext e3) t3
end

/-! ### comprehensions -/
abbrev DTs (O : Org) (X : Cx) (ifs : List Expr) (t : DTT) : Prop := PTs X ifs (LT X.K O t)
def dYes : DTT := fun _ μ q => q true μ
def dLc (ti : DTI) (g : DTG) (tt : DTT) (te : DTE) (vs : List Nat) : DTE := fun δ μ q => ti δ μ fun items keep μ1 => ∃ P : Nat → List D → Mu → Prop, P 0 [] μ1 ∧ (∀ i l μ, i ≤ items.length → P i l μ → keep μ ∧ l.length < sizeLine) ∧
  (∀ i d l μ, items[i]? = some d → P i l μ → g d (wipeD δ vs) μ fun δ2 μ2 => tt δ2 μ2 fun b μ3 => if b = true then te δ2 μ3 fun y μ4 => P (i + 1) (l ++ [y]) μ4 else P (i + 1) l μ3) ∧ ∀ l μ, P items.length l μ → q (.lst l) μ
section
variable {O : Org} {X : Cx}
theorem dts_nil : DTs O X [] dYes := ⟨fun pins s σ H Q I ⟨F, δ, μ, q, hd, rs, t, k⟩ => pts_nil.run pins s σ H Q I (k F H μ true (Ext.refl F H) hd t)⟩
theorem dts_one {c : Expr} {t : DTT} (h : DT O X c t) : DTs O X [c] t := pts_one h
theorem llc {K : PySem.W.Frag} {ti : DTI} {g : DTG} {tt : DTT} {te : DTE} {ws vs : List Nat} (hw : ∀ i ∈ ws, i ∈ vs) : ∀ σ H Q, LE K O (dLc ti g tt te vs) σ H Q → tLc (LI K O ti) (LGw K O ws g) (LT K O tt) (LE K O te) vs σ H Q := fun σ H Q ⟨F, δ, μ, q, hd, rs, t, k⟩ =>
  ⟨F, δ, μ, _, hd, rs, t, fun F1 H1 μ1 items keep J e1 hd1 ok ⟨P, p0, pk, step, fin⟩ => by
    intro A hA
    -- the new list stays out of reach: what is said holds of the heap with it
    have nG : ¬ F1.G A := hd1.nf hA
    refine ⟨fun i m H' => m = items.length - i ∧ i ≤ items.length ∧ ∃ F2 l us μ2, Ext F1 H1 F2 H' ∧ Hd K O F2 H' μ2 ∧ ¬ F2.G A ∧ μ2 A = none ∧ H' A = some (.lst us) ∧ RepL K F2 H' l us ∧ P i l μ2, ⟨_, rfl, Nat.zero_le _, F1, [], [], μ1, ext_new hd1 hA, ⟨hd1.org.trans (ext_new hd1 hA), fun a f => ?_, fun a m e => ?_⟩, nG, hd1.free hA, upd_same, RepL.nil, p0⟩, ?_⟩
    · have z : a ≠ A := fun z => nG (z ▸ f)
      rw [upd_ne z]; exact hd1.fr a f
    · have z : a ≠ A := fun z => by rw [z, hd1.free hA] at e; cases e
      exact ⟨(hd1.own a m e).1, (hd1.own a m e).2.ext (ext_new hd1 hA) (upd_ne z)⟩
    rintro i m H2 ⟨rfl, hi, F2, l, us, μ2, e2, hd2, nA, mA, hA2, rl, p2⟩
    obtain ⟨kk, hsz⟩ := pk i l μ2 hi p2
    by_cases hlt : i < items.length
    · refine .inr ⟨ok.go i F2 H2 μ2 e2 hd2 kk hlt, fun H' => ∃ F2 l us μ2, Ext F1 H1 F2 H' ∧ Hd K O F2 H' μ2 ∧ ¬ F2.G A ∧ μ2 A = none ∧ H' A = some (.lst us) ∧ RepL K F2 H' l us ∧ P (i + 1) l μ2, fun H' q => ⟨_, by omega, rfl, hlt, q⟩, fun x H3 hy => ?_⟩
      have ep : Ext F2 H2 (addG F2 A) H2 := ⟨fun _ f => f, fun _ f => .inl f, fun _ _ => rfl, fun _ _ f => f⟩
      have hdp : Hd K O (addG F2 A) H2 μ2 := by
        refine ⟨hd2.org.trans ep, fun a f => f.elim (hd2.fr a) fun z => by rw [z, hA2]; simp, fun a m e => ?_⟩
        have z : a ≠ A := fun z => by rw [z, mA] at e; cases e
        exact ⟨fun f => f.elim (hd2.own a m e).1 z, (hd2.own a m e).2.ext ep rfl⟩
      obtain ⟨F3, d, e3, hd3, hd', r3⟩ := ok.yld i (addG F2 A) H2 μ2 x H3 (e2.trans ep) hdp kk hlt hy
      have e03 := (e1.trans (e2.trans ep)).trans e3
      refine ⟨F3, d, wipeD δ vs, μ2, _, hd3, (rs.wipe vs).ext e03, r3, step i d l μ2 hd' p2, fun F4 H4 μ4 δ4 σ4 e4 hd4 rs4 a4 t4 => ⟨(wipe_agr (a4.mono hw)).trans (wipe_wipe σ vs), F4, δ4, μ4, _, hd4, rs4, t4, fun F5 H5 μ5 b e5 hd5 t5 => ?_⟩⟩
      have e25 : Ext (addG F2 A) H2 F5 H5 := (e3.trans e4).trans e5
      -- what a turn leaves, whether or not something was appended
      have close : ∀ F6 H6 μ6, Ext (addG F2 A) H2 F6 H6 → Hd K O F6 H6 μ6 → ∀ (l' : List D) (us' : List V), RepL K F6 H6 l' us' → P (i + 1) l' μ6 →
          ∃ F7 l7 us7 μ7, Ext F1 H1 F7 (upd H6 A (.lst us')) ∧ Hd K O F7 (upd H6 A (.lst us')) μ7 ∧ ¬ F7.G A ∧ μ7 A = none ∧ (upd H6 A (.lst us')) A = some (.lst us7) ∧ RepL K F7 (upd H6 A (.lst us')) l7 us7 ∧ P (i + 1) l7 μ7 := by
        intro F6 H6 μ6 e6 hd6 l' us' r' p'
        have nf : ¬ F6.F A := fun f => nA (F2.sub A (e6.o A (.inr rfl) f))
        have gA : F6.G A := e6.g A (.inr rfl)
        have mA6 : μ6 A = none := by
          cases e : μ6 A with
          | none => rfl
          | some m => exact absurd gA (hd6.own A m e).1
        have le : Le F6 H6 (remG F6 A nf) (upd H6 A (.lst us')) := ⟨fun _ f => f, fun {a} f => upd_ne fun z => nf (z ▸ f)⟩
        have ex1 : Ext F1 H1 (remG F6 A nf) (upd H6 A (.lst us')) := ⟨fun a f => e6.f a (e2.f a f), fun a f => ⟨e6.g a (.inl (e2.g a f)), fun z => nG (z ▸ f)⟩, fun a f => by
          have z : a ≠ A := fun z => nG (z ▸ f)
          rw [upd_ne z, e6.h a (.inl (e2.g a f)), e2.h a f], fun a f k => e2.o a f (e6.o a (.inl (e2.g a f)) k)⟩
        refine ⟨remG F6 A nf, l', us', μ6, ex1, ⟨hd1.org.trans ex1, fun a f => ?_, fun a m e => ?_⟩, fun f => f.2 rfl, mA6, upd_same, r'.mv le, p'⟩
        · rw [upd_ne f.2]; exact hd6.fr a f.1
        · have z : a ≠ A := fun z => by rw [z, mA6] at e; cases e
          exact ⟨fun f => (hd6.own a m e).1 f.1, (hd6.own a m e).2.mv le (upd_ne z)⟩
      cases b with
      | true =>
        rw [if_pos rfl] at t5
        dsimp only
        rw [if_pos rfl]
        refine ⟨F5, δ4, μ5, _, hd5, rs4.ext e5, t5, fun F6 H6 μ6 y v e6 hd6 r6 t6 => ?_⟩
        have e26 := e25.trans e6
        refine ⟨us, (e26.h A (.inr rfl)).trans hA2, by rw [← rl.length]; exact hsz, ?_⟩
        exact close F6 H6 μ6 e26 hd6 (l ++ [y]) (us ++ [v]) (((rl.ext ep).ext e26).append (.cons r6 RepL.nil)) t6
      | false =>
        rw [if_neg Bool.false_ne_true] at t5
        dsimp only
        rw [if_neg Bool.false_ne_true]
        have c := close F5 H5 μ5 e25 hd5 l us ((rl.ext ep).ext e25) t5
        have eu : upd H5 A (.lst us) = H5 := by
          funext b
          unfold upd
          split
          · rename_i e; rw [e, (e25.h A (.inr rfl)).trans hA2]
          · rfl
        rw [eu] at c
        exact c
    · have e : i = items.length := by omega
      subst e
      refine .inl ⟨ok.stop _ F2 H2 μ2 e2 hd2 kk (Nat.le_refl _), ?_⟩
      have ex : Ext F2 H2 (addF F2 A) H2 := ⟨fun _ f => .inl f, fun _ f => .inl f, fun _ _ => rfl, fun a f z => z.elim id fun z => absurd (z ▸ f) nA⟩
      refine k (addF F2 A) H2 μ2 (.lst l) (.ref A) ((e1.trans e2).trans ex) ⟨hd2.org.trans ex, fun a f => ?_, fun a m e => ?_⟩ ⟨A, us, rfl, ⟨.inr rfl, hA2⟩, rl.ext ex⟩ (fin l μ2 p2)
      · rcases f with f | f
        · exact hd2.fr a f
        · rw [f, hA2]; simp
      · have z : a ≠ A := fun z => by rw [z, mA] at e; cases e
        exact ⟨fun f => f.elim (hd2.own a m e).1 z, (hd2.own a m e).2.ext ex rfl⟩⟩
theorem de_lc {elt tg iter : Expr} {ifs : List Expr} {scope : Scope} {own : List (Str × Nat)} {pos : Pos} {ti : DTI} {g : DTG} {tt : DTT} {te : DTE} {ws : List Nat} (hc : X.calm = true) (hN : X.N.Nodup) (hi : DI O X tg iter ti) (ok : BlkOk X.N X.env.scope scope own) (hw : ∀ i ∈ ws, i ∈ own.map (·.2))
    (hg : ∀ (s : Shared) (H : Hp) (C : Addr) (cl : List (Str × Addr)) (fp : List Addr), DGw O (X.blk s H scope (compEnvC scope cl C X.env) fp) tg ws g) (ht : ∀ (s : Shared) (H : Hp) (C : Addr) (cl : List (Str × Addr)) (fp : List Addr), DTs O (X.blk s H scope (compEnvC scope cl C X.env) fp) ifs tt)
    (he : ∀ (s : Shared) (H : Hp) (C : Addr) (cl : List (Str × Addr)) (fp : List Addr), DE O (X.blk s H scope (compEnvC scope cl C X.env) fp) elt te) (hs : ∀ x, foldedSetIterable iter X.env x = pure x := by intro _; rfl) :
    DE O X (.ListComp elt [⟨tg, iter, ifs, 0⟩] scope pos) (dLc ti g tt te (own.map (·.2))) := pe_weak (pe_lc hc hN hi ok hg ht he hs) (llc hw)
theorem ds_setLc {i : Nat} {y : Str} {py : Pos} {elt tg iter : Expr} {ifs : List Expr} {scope : Scope} {own : List (Str × Nat)} {pos spos : Pos} {ti : DTI} {g : DTG} {tt : DTT} {te : DTE} {ws : List Nat} (hc : X.calm = true) (hN : X.N.Nodup) (hy : X.N[i]? = some y) (hyl : X.env.scope.names.lookup y = some .local)
    (hsw : swapsWith (.ListComp elt [⟨tg, iter, ifs, 0⟩] scope pos) (some (.Name y py)) spos.line X.env = pure true) (hi : DI O X tg iter ti) (ok : BlkOk X.N X.env.scope scope own) (hw : ∀ i ∈ ws, i ∈ own.map (·.2))
    (hg : ∀ (s : Shared) (H : Hp) (C : Addr) (cl : List (Str × Addr)) (fp : List Addr), DGw O (X.blk s H scope (compEnvC scope cl C X.env) fp) tg ws g) (ht : ∀ (s : Shared) (H : Hp) (C : Addr) (cl : List (Str × Addr)) (fp : List Addr), DTs O (X.blk s H scope (compEnvC scope cl C X.env) fp) ifs tt)
    (he : ∀ (s : Shared) (H : Hp) (C : Addr) (cl : List (Str × Addr)) (fp : List Addr), DE O (X.blk s H scope (compEnvC scope cl C X.env) fp) elt te) (hs : ∀ x, foldedSetIterable iter X.env x = pure x := by intro _; rfl) :
    DSt O X (.Assign [.Name y py] (.ListComp elt [⟨tg, iter, ifs, 0⟩] scope pos) spos) (dAsg (dLc ti g tt te (own.map (·.2))) (dgName i)) := ps_weak (ps_setLc hc hN hy hyl hsw hi ok hg ht he hs) fun Z σ H ⟨F, δ, μ, E, hd, rs, t, L⟩ =>
  llc hw σ H _ ⟨F, δ, μ, _, hd, rs, t, fun F1 H1 μ1 d v e1 hd1 r1 t1 => L.nx F1 H1 μ1 _ _ e1 hd1 ((rs.ext e1).set r1) t1⟩
end
end DL

set_option Elab.async false
set_option linter.all false
set_option maxRecDepth 100000
namespace DL
open PySem L2 PySem.Spec PyProof.Rows

/-! ### defs: as FnOk, where no guard of repr stands around -/
structure FnG (P : Program) (w : World) (K : PySem.W.Frag) (mg : Str → Option Value) (base : Heap) (k : Nat) (f : Addr) (fd : FuncData) (ps : List Str) (sp : Sp) : Prop where
  len : ∀ vs H Q E, sp vs H Q E → vs.length = ps.length
  run : ∀ (A : Around) (outer : List Env) (s : Shared) (H : Hp) (args : Args) (us : List Value) (vs : List V) (Q : VK) (E : XK), Room k A → A.guards = some [] → Env0 P w K mg base A outer s H →
    BindsTo s fd args (ps.zip us) → Vals vs us → sp vs H Q E → codeAny (model P w) A (.call (.ref f) args) (CR (L2N.CX P w) outer P w H s Q E) s
section
variable {P : Program} {w : World} {K : PySem.W.Frag} {mg : Str → Option Value} {base : Heap}
theorem FnG.mono {j k : Nat} {f : Addr} {fd : FuncData} {ps : List Str} {sp : Sp} (F : FnG P w K mg base j f fd ps sp) (h : j ≤ k) : FnG P w K mg base k f fd ps sp :=
  ⟨F.len, fun A outer s H args us vs Q E hr => F.run A outer s H args us vs Q E (hr.mono h)⟩
theorem fnG_of {x qual : Str} {st : Stmt} {f : Addr} {fd : FuncData} {N ps : List Str} {k : Nat} {sp : Sp} (F : Fun K x qual st f fd) (S : FnScope N ps (defScope st)) (len : ∀ vs H Q E, sp vs H Q E → vs.length = ps.length)
    (body : ∀ (cdv : Value) (A : Around) (outer : List Env) (s : Shared) (H : Hp) (vs : List V) (Q : VK) (E : XK), Room k (A.deeper (envOfC qual (defScope st) s.heap.objs.size f cdv)) → A.guards = some [] → sp vs H Q E →
      ∃ t, PSs (cxOf (L2N.CX P w) P w K mg base N qual (defScope st) f cdv A outer s H E) (defBody st) t ∧ t { nx := fun _ H' => Q .non H', rt := Q } (start N vs) H) : FnG P w K mg base (k + 1) f fd ps sp := by
  obtain ⟨oc, od, kV, doc, pm, an, cdv, ct, osl, rfl, lk, hcd⟩ := F.ex
  refine ⟨len, ?_⟩
  intro A outer s H args us vs Q E room gd e0 bnd rel hsp
  have inK : K.In s.heap := e0.mod.kin.keeps fun b o z => (e0.bs b o z).1
  have nolim : s.heap.NoLimit := e0.mod.nolimit.keeps fun b o z => (e0.bs b o z).1
  refine codeAny_call_function room.depth (inK _ _ lk) rfl S.co S.gen rfl (PySem.W.codeRec_of inK hcd) (bnd _ _ _ _ ?_)
  refine wpAny_newFunctionEnv_cells S.kind ?_ ?_
  · rintro ⟨n, v⟩ hy
    rcases S.par n (List.of_mem_zip hy).1 with q | q
    · exact .inl q
    · exact .inr ⟨q, PySem.W.cellsFrom_some _ _ _ (.inl q)⟩
  intro env he s1 inC
  subst he
  refine ⟨nolim.keeps inC.toInCall.keep, codeAny_func ?_⟩
  obtain ⟨t, der, q⟩ := body cdv A outer s H vs Q E (room.deeper _) gd hsp
  have I := inv_start (CX := L2N.CX P w) (E := E) S room.hd e0 (len _ _ _ _ hsp) rel inC
  refine wpAny_mono (der.run [] s1 (start N vs) H _ I q) ?_ fun _ _ z => z
  intro fl s2 sp2
  match fl, sp2 with
  | .ret u, ⟨v, σ2, H2, J, rv, q2⟩ => exact ⟨v, H2, J.os, J.bare, J.base, J.hok, rv, q2⟩
  | .next, ⟨σ2, H2, J, q2⟩ => exact ⟨V.non, H2, J.os, J.bare, J.base, J.hok, rfl, q2⟩
  | .brk, ⟨_, _, _, q2⟩ => exact q2.elim
  | .cont, ⟨_, _, _, q2⟩ => exact q2.elim
end
section
variable {X : Cx} {k : Nat} {f C : Addr} {fd : FuncData} {ps : List Str} {sp : Sp} {dvs : List V} {ds : List Value} {E : XK} {x m : Str} {p pos apos : Pos} {e o : Expr} {es : List Expr} {ta : TE} {t : TA}
theorem run_fnG {pins : List (Addr × Obj)} {σ : L2.St} {H : Hp} {s : Shared} {Q : VK} {us : List Value} {vs : List V} (F : FnG X.prog X.w X.K X.mg X.base k f fd ps sp) (hr : Room k X.A) (hgd : X.A.guards = some []) (hb : Binds X.K fd ps ds) (hd : Vals dvs ds) (hx : Passes (L2N.CX X.prog X.w) X E)
    (I : Inv X pins σ H s) (r : Vals vs us) (h : sp (vs ++ dvs) H Q E) : wpAny (model X.prog X.w) X.A (call (.ref f) us) (EP X pins σ Q) X.xe s := by
  have rel := r.append hd
  have hl : (us ++ ds).length = ps.length := rel.length.symm.trans (F.len _ _ _ _ h)
  refine wpAny_call (codeAny_mono (F.run X.A X.stack s H ⟨us, []⟩ _ _ Q E hr hgd I.env0 (hb s us I.kIn hl) rel h) ?_)
  intro res s2 end2
  match res, end2 with
  | .error e, end2 => exact hx pins σ H s e s2 I end2
  | .ok (.ret u), end2 => exact I.after end2
theorem pe_callG (F : FnG X.prog X.w X.K X.mg X.base k f fd ps sp) (hr : Room k X.A) (hgd : X.A.guards = some []) (hg : Gl X x) (hm : X.mg x = some (.ref f)) (hk : PySem.W.keepIn X.K (.ref f) = true) (hb : Binds X.K fd ps ds) (hd : Vals dvs ds) (hx : Passes (L2N.CX X.prog X.w) X E)
    (ha : PA X (e :: es) t) (hdb : (x == ("__debug__" : Str)) = false := by decide) (he : starEach (e :: es) X.env = (false, eval e X.env) :: starEach es X.env := by rfl) (hpl : (backTo pos (starEach es X.env)).any (·.1) = false := by rfl) :
    PE X (.Call (.Name x p) (e :: es) [] pos) (tCall sp dvs E t) := by
  constructor
  intro pins s σ H Q I h
  refine wpAny_Call_Name_kw (ld_glob I hg hm ?_ hdb)
  refine PySem.W.callWith_K (h₀ := X.base) I.ok.mod.kin hk (thn (ha.run pos pins s σ H _ I h) ?_) he hpl
  rintro us s1 ⟨vs, H1, I1, r, q⟩
  exact ⟨I1.kIn, run_fnG F hr hgd hb hd hx I1 r q⟩
theorem pe_callG0 (F : FnG X.prog X.w X.K X.mg X.base k f fd ps sp) (hr : Room k X.A) (hgd : X.A.guards = some []) (hg : Gl X x) (hm : X.mg x = some (.ref f)) (hk : PySem.W.keepIn X.K (.ref f) = true) (hb : Binds X.K fd ps ds) (hd : Vals dvs ds) (hx : Passes (L2N.CX X.prog X.w) X E)
    (hdb : (x == ("__debug__" : Str)) = false := by decide) : PE X (.Call (.Name x p) [] [] pos) (tCall sp dvs E tNil) := by
  constructor
  intro pins s σ H Q I h
  exact wpAny_Call_Name_kw (ld_glob I hg hm (PySem.W.callWith_K0 I.kIn hk (run_fnG (us := []) F hr hgd hb hd hx I .nil h)) hdb)
end

/-! ### defs over data -/
abbrev DX := Addr → D → Mu → Prop
abbrev DSp := List D → Mu → DK → DX → Prop
/-- the exception that leaves: its class, what its attribute value holds -/
def LX (K : PySem.W.Frag) (O : Org) (e : DX) : XK := fun cls dd H' => ∃ C a v d F' μ', cls = .ref C ∧ dd = some a ∧ H' a = some (.xd [(("value" : Str), v)]) ∧ Hd K O F' H' μ' ∧ Rep K F' H' d v ∧ e C d μ'
def LSp (K : PySem.W.Frag) (c : DSp) : Sp := fun vs H Q E => ∃ F μ ds q e, Hd K ⟨F, H⟩ F H μ ∧ RepL K F H ds vs ∧ c ds μ q e ∧ (∀ F' H' μ' d v, Hd K ⟨F, H⟩ F' H' μ' → Rep K F' H' d v → q d μ' → Q v H') ∧
  ∀ cls dd H', LX K ⟨F, H⟩ e cls dd H' → E cls dd H'
def dCall (c : DSp) (e : DX) (dds : List D) (t : DTA) : DTE := fun δ μ q => t δ μ fun ds μ1 => c (ds ++ dds) μ1 q e
/-- nothing is raised -/
def eN : DX := fun _ _ _ => False
theorem Hd.re {K : PySem.W.Frag} {O O' : Org} {F : Zo} {H : Hp} {μ : Mu} (h : Hd K O F H μ) (x : Ext O'.F O'.H F H) : Hd K O' F H μ := ⟨x, h.fr, h.own⟩
theorem Hd.here {K : PySem.W.Frag} {O : Org} {F : Zo} {H : Hp} {μ : Mu} (h : Hd K O F H μ) : Hd K ⟨F, H⟩ F H μ := h.re (Ext.refl F H)
theorem Hd.back {K : PySem.W.Frag} {O : Org} {F F' : Zo} {H H' : Hp} {μ μ' : Mu} (h : Hd K O F H μ) (k : Hd K ⟨F, H⟩ F' H' μ') : Hd K O F' H' μ' ∧ Ext F H F' H' := ⟨k.re (h.org.trans k.org), k.org⟩
/-- what a derivation knows of where it stands -/
structure Ctx (O : Org) (X : Cx) (k : Nat) (e : DX) : Prop where
  room : Room k X.A
  gd : X.A.guards = some []
  px : Passes (L2N.CX X.prog X.w) X (LX X.K O e)
theorem passesN {X : Cx} {O : Org} : Passes (L2N.CX X.prog X.w) X (LX X.K O eN) := fun pins σ H s e s' I h => by
  obtain ⟨a, B, H', cls, d, _, _, _, _, _, _, _, C, a', v, d', F', μ', _, _, _, _, _, z⟩ := h
  exact z.elim
section
variable {O : Org} {X : Cx} {k j : Nat} {f : Addr} {fd : FuncData} {ps : List Str} {c : DSp} {e : DX} {dvs : List V} {ds : List Value} {dds : List D} {x : Str} {p pos : Pos} {a : Expr} {es : List Expr} {t : DTA}
theorem lcall {K : PySem.W.Frag} (hdd : ∀ F H, RepL K F H dds dvs) : ∀ σ H Q, LE K O (dCall c e dds t) σ H Q → tCall (LSp K c) dvs (LX K O e) (LA K O t) σ H Q := fun σ H Q ⟨F, δ, μ, q, hd, rs, t, k⟩ =>
  ⟨F, δ, μ, _, hd, rs, t, fun F1 H1 μ1 ds vs e1 hd1 r1 t1 => ⟨F1, μ1, ds ++ dds, q, e, hd1.here, r1.append (hdd F1 H1), t1, fun F2 H2 μ2 d v hd2 r2 q2 => by
    obtain ⟨h1, h2⟩ := hd1.back hd2
    exact k F2 H2 μ2 d v (e1.trans h2) h1 r2 q2, fun cls dd H' ⟨C, b, v, d, F', μ', h1, h2, h3, h4, h5, h6⟩ => ⟨C, b, v, d, F', μ', h1, h2, h3, (hd1.back h4).1, h5, h6⟩⟩⟩
theorem de_call (F : FnG X.prog X.w X.K X.mg X.base j f fd ps (LSp X.K c)) (hr : Room j X.A) (hgd : X.A.guards = some []) (hg : Gl X x) (hm : X.mg x = some (.ref f)) (hk : PySem.W.keepIn X.K (.ref f) = true) (hb : Binds X.K fd ps ds) (hd : Vals dvs ds) (hdd : ∀ F H, RepL X.K F H dds dvs) (hx : Passes (L2N.CX X.prog X.w) X (LX X.K O e))
    (ha : DA O X (a :: es) t) (hdb : (x == ("__debug__" : Str)) = false := by decide) (he : starEach (a :: es) X.env = (false, eval a X.env) :: starEach es X.env := by rfl) (hpl : (backTo pos (starEach es X.env)).any (·.1) = false := by rfl) :
    DE O X (.Call (.Name x p) (a :: es) [] pos) (dCall c e dds t) := pe_weak (pe_callG F hr hgd hg hm hk hb hd hx ha hdb he hpl) (lcall hdd)
theorem de_call0 (F : FnG X.prog X.w X.K X.mg X.base j f fd ps (LSp X.K c)) (hr : Room j X.A) (hgd : X.A.guards = some []) (hg : Gl X x) (hm : X.mg x = some (.ref f)) (hk : PySem.W.keepIn X.K (.ref f) = true) (hb : Binds X.K fd ps ds) (hd : Vals dvs ds) (hdd : ∀ F H, RepL X.K F H dds dvs) (hx : Passes (L2N.CX X.prog X.w) X (LX X.K O e))
    (hdb : (x == ("__debug__" : Str)) = false := by decide) : DE O X (.Call (.Name x p) [] [] pos) (dCall c e dds dNil) := pe_weak (pe_callG0 F hr hgd hg hm hk hb hd hx hdb) fun σ H Q h => by
  obtain ⟨F1, δ, μ, q, hd1, rs, t1, k1⟩ := h
  have := lcall (t := dNil) hdd σ H Q ⟨F1, δ, μ, q, hd1, rs, t1, k1⟩
  obtain ⟨F2, δ2, μ2, q2, hd2, rs2, t2, k2⟩ := this
  exact k2 F2 H μ2 [] [] (Ext.refl _ _) hd2 RepL.nil t2
end
/-- the slots at the entry -/
def startD (n : Nat) (ds : List D) : DS := ds.map some ++ List.replicate (n - ds.length) none
theorem repS_start {K : PySem.W.Frag} {F : Zo} {H : Hp} {N : List Str} {ds : List D} {vs : List V} (r : RepL K F H ds vs) : RepS K F H (startD N.length ds) (L2.start N vs) := by
  have hl := r.length
  refine ⟨by simp [startD, L2.start, hl], fun i d e => ?_⟩
  unfold startD at e
  unfold L2.start
  by_cases hi : i < ds.length
  · rw [List.getElem?_append_left (by simpa using hi), List.getElem?_map] at e
    cases e2 : ds[i]? with
    | none => rw [e2] at e; simp at e
    | some d' =>
      rw [e2] at e
      have e : d' = d := by simpa using e
      subst e
      obtain ⟨v, h1, h2⟩ := r.get e2
      refine ⟨v, ?_, h2⟩
      rw [List.getElem?_append_left (by rw [List.length_map, ← hl]; exact hi), List.getElem?_map, h1]
      rfl
  · rw [List.getElem?_append_right (by simpa using hi), List.getElem?_replicate] at e
    split at e <;> simp at e
/-- behind the body: what was made on the way may be dropped -/
def endsD (q : DK) : DEnds where
  nx := fun _ μ' => ∃ μ2, Sub μ2 μ' ∧ q .non μ2
  rt := fun d μ' => ∃ μ2, Sub μ2 μ' ∧ q d μ2
section
variable {P : Program} {w : World} {K : PySem.W.Frag} {mg : Str → Option Value} {base : Heap}
/-- THE RULE for a def: its body's derivation, and that the body's reading keeps the contract -/
theorem fnD_of {x qual : Str} {st : Stmt} {f : Addr} {fd : FuncData} {N ps : List Str} {k n : Nat} {c : DSp} {t : DX → DTS} (F : Fun K x qual st f fd) (S : FnScope N ps (defScope st)) (hn : N.length = n) (len : ∀ ds μ q e, c ds μ q e → ds.length = ps.length)
    (der : ∀ (cdv : Value) (A : Around) (outer : List Env) (s : Shared) (H : Hp) (E : XK) (O : Org) (e : DX), Ctx O (cxOf (L2N.CX P w) P w K mg base N qual (defScope st) f cdv A outer s H E) k e →
      L2N.Takes (cxOf (L2N.CX P w) P w K mg base N qual (defScope st) f cdv A outer s H E) (fun cls d _ H2 => LX K O e cls d H2) →
      PassesOwn (model P w) (A.deeper (envOfC qual (defScope st) s.heap.objs.size f cdv)) (envOfC qual (defScope st) s.heap.objs.size f cdv) (cxOf (L2N.CX P w) P w K mg base N qual (defScope st) f cdv A outer s H E).xe →
      DSs O (cxOf (L2N.CX P w) P w K mg base N qual (defScope st) f cdv A outer s H E) (defBody st) (t e))
    (ok : ∀ ds μ q e, c ds μ q e → t e (endsD q) (startD n ds) μ) : FnG P w K mg base (k + 1) f fd ps (LSp K c) := by
  subst hn
  refine fnG_of F S (fun vs H Q E ⟨F, μ, ds, q, e, hd, r, hc, _⟩ => by rw [← r.length]; exact len _ _ _ _ hc) ?_
  rintro cdv A outer s H vs Q E room gd ⟨F0, μ, ds, q, e, hd, r, hc, hq, hE⟩
  have tk : L2N.Takes (cxOf (L2N.CX P w) P w K mg base N qual (defScope st) f cdv A outer s H E) (fun cls d _ H2 => LX K ⟨F0, H⟩ e cls d H2) := by
    have z := L2N.takes_of (X := cxOf (L2N.CX P w) P w K mg base N qual (defScope st) f cdv A outer s H E) (E := E) rfl rfl rfl rfl
    exact z.imp fun cls d _ H' h => hE cls d H' h
  have ow : PassesOwn (model P w) (A.deeper (envOfC qual (defScope st) s.heap.objs.size f cdv)) (envOfC qual (defScope st) s.heap.objs.size f cdv) (cxOf (L2N.CX P w) P w K mg base N qual (defScope st) f cdv A outer s H E).xe :=
    passes_of (X := cxOf (L2N.CX P w) P w K mg base N qual (defScope st) f cdv A outer s H E) rfl
  refine ⟨_, der cdv A outer s H E ⟨F0, H⟩ e ⟨room, gd, L2N.passes_call tk fun _ _ _ _ h => h⟩ tk ow, F0, startD N.length ds, μ, _, hd, repS_start r, ok ds μ q e hc, ⟨?_, ?_, ?_, ?_⟩⟩
  · rintro F1 H1 μ1 δ1 σ1 e1 hd1 rs1 ⟨μ2, s2, q2⟩
    exact hq F1 H1 μ2 .non .non (hd1.sub s2) rfl q2
  · rintro F1 H1 μ1 d v e1 hd1 r1 ⟨μ2, s2, q2⟩
    exact hq F1 H1 μ2 d v (hd1.sub s2) r1 q2
  · intro _ _ _ _ _ _ _ _ z; exact z.elim
  · intro _ _ _ _ _ _ _ _ z; exact z.elim
end
end DL

set_option Elab.async false
set_option linter.all false
set_option maxRecDepth 100000
namespace DL
open PySem L2 PySem.Spec PyProof.Rows

/-! ### built-ins by values -/
def dCB (rd : DC2) (t : DTA) : DTE := fun δ μ q => t δ μ fun ds μ1 => rd ds μ1 q
section
variable {O : Org} {X : Cx} {x : Str} {p pos : Pos} {a : Expr} {es : List Expr} {t : DTA} {id T : String} {r : List V → Hp → VK → Prop} {rd : DC2}
theorem lcb {K : PySem.W.Frag} (h : CallD K r rd) : ∀ σ H Q, LE K O (dCB rd t) σ H Q → tCB r (LA K O t) σ H Q := fun σ H Q ⟨F, δ, μ, q, hd, rs, t, k⟩ =>
  ⟨F, δ, μ, _, hd, rs, t, fun F1 H1 μ1 ds vs e1 hd1 r1 t1 => h O F1 H1 μ1 ds vs q Q hd1 r1 t1 fun F' H' μ' d u e2 hd2 r2 q2 => k F' H' μ' d u (e1.trans e2) hd2 r2 q2⟩
theorem de_callB (hc : CallR X (.builtin id) r) (hd : CallD X.K r rd) (hg : Gl X x) (hm : X.mg x = none) (hv : bootBuiltins x = some (.builtin id)) (ha : DA O X (a :: es) t) (hn : x ≠ "__name__" := by decide) (hdb : (x == ("__debug__" : Str)) = false := by decide)
    (he : starEach (a :: es) X.env = (false, eval a X.env) :: starEach es X.env := by rfl) (hpl : (backTo pos (starEach es X.env)).any (·.1) = false := by rfl) : DE O X (.Call (.Name x p) (a :: es) [] pos) (dCB rd t) := pe_weak (pe_callB hc hg hm hv ha hn hdb he hpl) (lcb hd)
theorem de_callTy (hc : CallR X (.type T) r) (hd : CallD X.K r rd) (hg : Gl X x) (hm : X.mg x = none) (hv : bootBuiltins x = some (.type T)) (ha : DA O X (a :: es) t) (hn : x ≠ "__name__" := by decide) (hdb : (x == ("__debug__" : Str)) = false := by decide)
    (he : starEach (a :: es) X.env = (false, eval a X.env) :: starEach es X.env := by rfl) (hpl : (backTo pos (starEach es X.env)).any (·.1) = false := by rfl) : DE O X (.Call (.Name x p) (a :: es) [] pos) (dCB rd t) := pe_weak (pe_callTy hc hg hm hv ha hn hdb he hpl) (lcb hd)
end
def rLenD : DC2 := fun ds μ q => match ds with
  | [.tup l] => q (.int (l.length : Int)) μ
  | [.str z] => z.length ≤ sizeLine ∧ q (.int (z.length : Int)) μ
  | [d] => match lstOf μ d with | some l => q (.int (l.length : Int)) μ | none => False
  | _ => False
def rAbsD : DC2 := fun ds μ q => match ds with | [.int i] => q (.int (if i < 0 then -i else i)) μ | _ => False
def rMax2D : DC2 := fun ds μ q => match ds with | [.int i, .int j] => q (.int (if j > i then j else i)) μ | _ => False
def rMin2D : DC2 := fun ds μ q => match ds with | [.int i, .int j] => q (.int (if j < i then j else i)) μ | _ => False
/-- list(..): a list, a tuple; frozen, to be written -/
def seqOf (μ : Mu) : D → Option (List D)
  | .tup l => some l
  | d => lstOf μ d
def rListD : DC2 := fun ds μ q => match ds with | [d] => (match seqOf μ d with | some l => q (.lst l) μ | none => False) | _ => False
def rListM : DC2 := fun ds μ q => match ds with | [d] => (match seqOf μ d with | some l => ∀ p, μ p = none → q (.adr p) (updM μ p (.lst l)) | none => False) | _ => False
def rTupleD : DC2 := fun ds μ q => match ds with | [d] => (match seqOf μ d with | some l => q (.tup l) μ | none => False) | _ => False
def rSumD : DC2 := fun ds μ q => match ds with | [d] => ∃ ns : List Int, lstOf μ d = some (ns.map D.int) ∧ q (.int ns.sum) μ | _ => False
section
variable {K : PySem.W.Frag}
theorem repL1 {F : Zo} {H : Hp} {d : D} {vs : List V} (r : RepL K F H [d] vs) : ∃ v, vs = [v] ∧ Rep K F H d v := by
  obtain ⟨v, r1, rfl, h1, h2⟩ := r
  have h2 : r1 = [] := h2
  subst h2
  exact ⟨v, rfl, h1⟩
theorem seq_sq {O : Org} {F : Zo} {H : Hp} {μ : Mu} {d : D} {v : V} {l : List D} (hd : Hd K O F H μ) (r : Rep K F H d v) (e : seqOf μ d = some l) : ∃ a vs, v = .ref a ∧ (SqL K H a vs ∨ SqT K H a vs) ∧ RepL K F H l vs := by
  have lst : lstOf μ d = some l → ∃ a vs, v = .ref a ∧ (SqL K H a vs ∨ SqT K H a vs) ∧ RepL K F H l vs := fun e => by
    obtain ⟨a, vs, h1, h2, h3⟩ := list_sq hd r e
    exact ⟨a, vs, h1, .inl h2, h3⟩
  cases d <;> try exact lst e
  obtain ⟨a, vs, h1, h2, h3⟩ := r
  obtain rfl := Option.some.inj e
  exact ⟨a, vs, h1, .inr h2.sq, h3⟩
theorem cd_len : CallD K (fun xs H Q => ∃ x n, xs = [x] ∧ LenV K x H n ∧ Q (.int n) H) rLenD := by
  intro O F H μ ds vs q Q hd rs t k
  unfold rLenD at t
  split at t
  · rename_i l
    obtain ⟨v, rfl, a, us, rfl, h1, h2⟩ := repL1 rs
    exact ⟨_, us.length, rfl, .inr ⟨us, h1.sq, rfl⟩, k F H μ _ _ (Ext.refl F H) hd (by rw [h2.length]; exact rep_int) t⟩
  · rename_i z
    obtain ⟨v, rfl, h1⟩ := repL1 rs
    obtain rfl : v = .str z := h1
    exact ⟨_, z.length, rfl, ⟨t.1, rfl⟩, k F H μ _ _ (Ext.refl F H) hd rep_int t.2⟩
  · rename_i d _ _
    obtain ⟨v, rfl, h1⟩ := repL1 rs
    split at t
    · rename_i l e
      obtain ⟨a, us, rfl, h2, h3⟩ := list_sq hd h1 e
      exact ⟨_, us.length, rfl, .inl ⟨us, h2, rfl⟩, k F H μ _ _ (Ext.refl F H) hd (by rw [h3.length]; exact rep_int) t⟩
    · exact t.elim
  · exact t.elim
theorem cd_abs : CallD K (fun xs H Q => ∃ i, xs = [.int i] ∧ Q (.int (if i < 0 then -i else i)) H) rAbsD := by
  intro O F H μ ds vs q Q hd rs t k
  unfold rAbsD at t
  split at t
  · rename_i i
    obtain ⟨v, rfl, h1⟩ := repL1 rs
    obtain rfl : v = .int i := h1
    exact ⟨i, rfl, k F H μ _ _ (Ext.refl F H) hd rep_int t⟩
  · exact t.elim
theorem cd_max2 : CallD K (fun xs H Q => ∃ i j, xs = [.int i, .int j] ∧ Q (.int (if j > i then j else i)) H) rMax2D := by
  intro O F H μ ds vs q Q hd rs t k
  unfold rMax2D at t
  split at t
  · rename_i i j
    obtain ⟨v, w, rfl, h1, h2⟩ := repL2 rs
    obtain rfl : v = .int i := h1
    obtain rfl : w = .int j := h2
    exact ⟨i, j, rfl, k F H μ _ _ (Ext.refl F H) hd rep_int t⟩
  · exact t.elim
theorem cd_min2 : CallD K (fun xs H Q => ∃ i j, xs = [.int i, .int j] ∧ Q (.int (if j < i then j else i)) H) rMin2D := by
  intro O F H μ ds vs q Q hd rs t k
  unfold rMin2D at t
  split at t
  · rename_i i j
    obtain ⟨v, w, rfl, h1, h2⟩ := repL2 rs
    obtain rfl : v = .int i := h1
    obtain rfl : w = .int j := h2
    exact ⟨i, j, rfl, k F H μ _ _ (Ext.refl F H) hd rep_int t⟩
  · exact t.elim
theorem cd_list : CallD K (fun xs H Q => ∃ p ys, xs = [.ref p] ∧ (SqL K H p ys ∨ SqT K H p ys) ∧ ∀ l, H l = none → Q (.ref l) (upd H l (.lst ys))) rListD := by
  intro O F H μ ds vs q Q hd rs t k
  unfold rListD at t
  split at t
  · rename_i d
    obtain ⟨v, rfl, h1⟩ := repL1 rs
    split at t
    · rename_i l e
      obtain ⟨a, us, rfl, h2, h3⟩ := seq_sq hd h1 e
      exact ⟨a, us, rfl, h2, fun p hp => k _ _ μ (.lst l) (.ref p) (ext_newF hd hp) (hd.newF hp) ⟨p, us, rfl, ⟨.inr rfl, upd_same⟩, h3.ext (ext_newF hd hp)⟩ t⟩
    · exact t.elim
  · exact t.elim
theorem cd_listM : CallD K (fun xs H Q => ∃ p ys, xs = [.ref p] ∧ (SqL K H p ys ∨ SqT K H p ys) ∧ ∀ l, H l = none → Q (.ref l) (upd H l (.lst ys))) rListM := by
  intro O F H μ ds vs q Q hd rs t k
  unfold rListM at t
  split at t
  · rename_i d
    obtain ⟨v, rfl, h1⟩ := repL1 rs
    split at t
    · rename_i l e
      obtain ⟨a, us, rfl, h2, h3⟩ := seq_sq hd h1 e
      exact ⟨a, us, rfl, h2, fun p hp => k _ _ _ (.adr p) (.ref p) (ext_new hd hp) (hd.newM (m := .lst l) hp ⟨us, upd_same, h3.ext (ext_new hd hp)⟩) rfl (t p (hd.free hp))⟩
    · exact t.elim
  · exact t.elim
theorem cd_tuple : CallD K (fun xs H Q => ∃ p ys, xs = [.ref p] ∧ ((SqL K H p ys ∧ ∀ l, H l = none → Q (.ref l) (upd H l (.tup ys))) ∨ (SqT K H p ys ∧ Q (.ref p) H))) rTupleD := by
  intro O F H μ ds vs q Q hd rs t k
  unfold rTupleD at t
  split at t
  · rename_i d
    obtain ⟨v, rfl, h1⟩ := repL1 rs
    have lst : ∀ l, lstOf μ d = some l → q (.tup l) μ → ∃ p ys, [v] = [V.ref p] ∧ ((SqL K H p ys ∧ ∀ l, H l = none → Q (.ref l) (upd H l (.tup ys))) ∨ (SqT K H p ys ∧ Q (.ref p) H)) := fun l e t => by
      obtain ⟨a, us, rfl, h2, h3⟩ := list_sq hd h1 e
      exact ⟨a, us, rfl, .inl ⟨h2, fun p hp => k _ _ μ (.tup l) (.ref p) (ext_newF hd hp) (hd.newF hp) ⟨p, us, rfl, .inl ⟨.inr rfl, .inl upd_same⟩, h3.ext (ext_newF hd hp)⟩ t⟩⟩
    split at t
    · rename_i l e
      cases d <;> try exact lst l e t
      obtain rfl := Option.some.inj e
      obtain ⟨a, us, rfl, h2, h3⟩ := h1
      exact ⟨a, us, rfl, .inr ⟨h2.sq, k F H μ (.tup _) _ (Ext.refl F H) hd ⟨a, us, rfl, h2, h3⟩ t⟩⟩
    · exact t.elim
  · exact t.elim
theorem cd_sum : CallD K (rSum K) rSumD := by
  intro O F H μ ds vs q Q hd rs t k
  unfold rSumD at t
  split at t
  · rename_i d
    obtain ⟨v, rfl, h1⟩ := repL1 rs
    obtain ⟨ns, e, t⟩ := t
    obtain ⟨a, us, rfl, h2, h3⟩ := list_sq hd h1 e
    obtain rfl := h3.ints
    exact ⟨a, ns, rfl, h2, k F H μ _ _ (Ext.refl F H) hd rep_int t⟩
  · exact t.elim
end

/-! ### l.append(x) -/
def dAppend (tl te : DTE) : DTE := fun δ μ q => tl δ μ fun x μ1 => match x with
  | .adr p => (∃ l, μ1 p = some (.lst l)) ∧ te δ μ1 fun d μ2 => ∃ l, μ2 p = some (.lst l) ∧ l.length < sizeLine ∧ q .non (updM μ2 p (.lst (l ++ [d])))
  | _ => False
section
variable {O : Org} {X : Cx} {o e : Expr} {tl te : DTE} {pos apos : Pos}
theorem de_append (h : PE X (.Call (.Attribute o "append" apos) [e] [] pos) (tBM X.K "list" rAppend (LE X.K O tl) (tCons (LE X.K O te) tNil))) : DE O X (.Call (.Attribute o "append" apos) [e] [] pos) (dAppend tl te) :=
  pe_weak h fun σ H Q ⟨F, δ, μ, q, hd, rs, t, k⟩ => ⟨F, δ, μ, _, hd, rs, t, fun F1 H1 μ1 x v e1 hd1 r1 t1 => by
    cases x <;> first | exact False.elim t1 | skip
    rename_i p
    obtain rfl : v = .ref p := r1
    obtain ⟨⟨l0, hm⟩, t1⟩ := t1
    obtain ⟨_, vs, h1, h2⟩ := hd1.own p _ hm
    refine ⟨.inl ⟨rfl, vs, SqL.of h1⟩, F1, δ, μ1, _, hd1, rs.ext e1, t1, fun F2 H2 μ2 d u e2 hd2 r2 ⟨l, hm2, hl, t2⟩ => ?_⟩
    obtain ⟨_, ws, h3, h4⟩ := hd2.own p _ hm2
    have ex := ext_set (o := HO.lst (ws ++ [u])) hd2 hm2
    exact ⟨p, ws, u, rfl, rfl, h3, by rw [← h4.length]; exact hl, k F2 _ _ .non .non ((e1.trans e2).trans ex) (hd2.set (m' := .lst (l ++ [d])) hm2 ⟨_, upd_same, (h4.ext ex).append (.cons (r2.ext ex) RepL.nil)⟩) rfl t2⟩⟩
end

/-! ### the law's own end -/
def spLawD : DSp := fun ds _ q _ => ∃ ns : List Int, ds = [.rol (ns.map D.int)] ∧ ns.length ≤ 63 ∧ ∀ μ', q (.bl true) μ'
theorem repL_ints {K : PySem.W.Frag} {F : Zo} {H : Hp} : ∀ ns : List Int, RepL K F H (ns.map D.int) (ns.map V.int) := RepL.of_ints
/-- the state at the law's call: only the script may be tracked -/
theorem law_state {K : PySem.W.Frag} {H : Hp} {a : Addr} {ns : List Int} (h : H a = none ∧ (∀ H', SqL K H' a (ns.map V.int)) ∨ Rd H a (.lst (ns.map V.int)) ∧ H a ≠ none) :
    ∃ F : Zo, Hd K ⟨F, H⟩ F H (fun _ => none) ∧ RepL K F H [.rol (ns.map D.int)] [.ref a] := by
  rcases h with ⟨h0, h⟩ | ⟨h, h0⟩
  · exact ⟨⟨fun _ => False, fun _ => False, fun _ z => z⟩, ⟨Ext.refl _ _, fun _ z => z.elim, fun _ _ z => nomatch z⟩, .cons ⟨a, _, rfl, .inr h, RepL.of_ints ns⟩ RepL.nil⟩
  · refine ⟨⟨fun b => b = a, fun b => b = a, fun _ z => z⟩, ⟨Ext.refl _ _, fun b z => ?_, fun _ _ z => nomatch z⟩, .cons ⟨a, _, rfl, .inl ⟨rfl, h⟩, RepL.of_ints ns⟩ RepL.nil⟩
    have z : b = a := z
    rw [z]; exact h0
theorem lawG_call {P : Program} {w : World} {K : PySem.W.Frag} {mg mb : Str → Option Value} {k : Nat} {fa a : Addr} {fd : FuncData} {x : Str} {s1 : Shared} {vs : List Value} {ns : List Int}
    (inK : K.In s1.heap) (glob : s1.heap.Ns mainGlobals mg) (blt : s1.heap.Ns builtinsNs mb) (boot : ∀ x : Str, x ≠ "__name__" → mb x = bootBuiltins x) (nolim : s1.heap.NoLimit) (nogen : s1.gens = #[])
    (obj : s1.heap.get? a = some { cls := .type "list", data := .seq vs.toArray }) (hints : IntsAre vs ns) (len : ns.length ≤ 63) (room : Room k callerA)
    (F : ∀ base : Heap, K.In base → base.Ns mainGlobals mg → FnG P w K mg base k fa fd [x] (LSp K spLawD)) (bind : ∀ (s : Shared) (u : Value), BindsTo s fd ⟨[u], []⟩ [(x, u)]) :
    codeAny (model P w) callerA (.call (.ref fa) ⟨[.ref a], []⟩) (fun r s' => r = .ok (.ret (.bool true)) ∧ OldK s1.heap s'.heap ∧ s'.os = s1.os ∧ AllBare s'.gens) s1 := by
  have rel := vals_ints hints
  have lenV := hints.length
  have line : ns.length ≤ sizeLine := Nat.le_trans len (by decide)
  -- H tracks the script alone, or nothing
  have go : ∀ H : Hp, (∀ b, H b ≠ none → b = a) → HOk P w H s1.heap → (H a ≠ none → K.lookup a = none ∧ ∃ o xs, H a = some (.frz o (.lst xs))) →
      (H a = none ∧ (∀ H', SqL K H' a (ns.map V.int)) ∨ Rd H a (.lst (ns.map V.int)) ∧ H a ≠ none) →
      codeAny (model P w) callerA (.call (.ref fa) ⟨[.ref a], []⟩) (fun r s' => r = .ok (.ret (.bool true)) ∧ OldK s1.heap s'.heap ∧ s'.os = s1.os ∧ AllBare s'.gens) s1 := by
    intro H only hok trk st
    have keep : ∀ {b : Addr} {o : Obj}, s1.heap.get? b = some o → b ≠ a ∨ H a = none → (hidT s1.heap H).get? b = some o := fun {b o} e z => hidT_get e <| by
      cases q : H b with
      | none => rfl
      | some u =>
        have hb := only b (by rw [q]; simp)
        rcases z with z | z
        · exact absurd hb z
        · rw [hb, z] at q; cases q
    have dicts : ∀ {b : Addr} {m : Str → Option Value}, s1.heap.Ns b m → (hidT s1.heap H).Ns b m := by
      rintro b m ⟨o, es, ep, e, d, r⟩
      refine ⟨o, es, ep, keep e (.inl fun z => ?_), d, r⟩
      rw [z, obj] at e
      cases e
      cases (show Data.seq vs.toArray _ = Data.dict es ep from d)
    have inB : K.In (hidT s1.heap H) := fun b o e => keep (inK b o e) <| by
      by_cases z : H a = none
      · exact .inr z
      · refine .inl fun h => ?_
        rw [h, (trk z).1] at e; cases e
    have md : Mod K mg (hidT s1.heap H) := ⟨inB, dicts glob, ⟨mb, dicts blt, boot⟩, let ⟨mc, h1, h2⟩ := nolim; ⟨mc, dicts h1, h2⟩⟩
    have none_mem : ∀ b : Addr, b ∉ (frs ([] : List Env)) := fun b z => by
      have z : b ∈ ([] : List Addr) := z
      simp at z
    have e0 : Env0 P w K mg (hidT s1.heap H) callerA [] s1 H := ⟨rfl, md, fun b o e => of_hidT e, Nat.le_of_eq (hidT_size _ _), trivial, fun b hb => absurd hb (none_mem b), hok, .of_eq nogen⟩
    obtain ⟨F0, hd0, r0⟩ := law_state st
    refine codeAny_mono ((F _ inB (dicts glob)).run callerA [] s1 H ⟨[.ref a], []⟩ [.ref a] [.ref a] (fun v _ => v = .bl true) (fun _ _ _ => False) room rfl e0 (bind s1 (.ref a)) (.cons rfl .nil)
      ⟨F0, fun _ => none, _, fun d _ => d = .bl true, eN, hd0, r0, ⟨ns, rfl, len, fun _ => rfl⟩, fun F' H' μ' d v _ r q => by subst q; exact r, fun cls dd H' ⟨_, _, _, _, _, _, _, _, _, _, _, z⟩ => z⟩) ?_
    intro r s2 h
    match r, h with
    | .error e, ⟨_, _, _, _, _, _, _, _, _, _, _, _, z⟩ => exact z.elim
    | .ok (.ret u), ⟨v, H', os, bare, un, hok', r', q⟩ =>
      have q : v = .bl true := q
      subst q
      obtain rfl : u = Value.bool true := r'
      refine ⟨rfl, OldK.of_keep fun b o e => ?_, os, bare⟩
      cases q : H b with
      | none => exact un.keep b o e q (none_mem b) (by simp)
      | some u =>
        have hb := only b (by rw [q]; simp)
        subst hb
        obtain ⟨_, ob, xs, z⟩ := trk (by rw [q]; simp)
        obtain ⟨e1, _⟩ := hok b _ z
        obtain ⟨e2, _⟩ := hok' b _ (un.frzs b ob _ z)
        rw [e] at e1
        cases e1
        exact e2
  cases hk : K.lookup a with
  | some o =>
    have e := inK a o hk
    rw [obj] at e
    cases e
    exact go (fun _ => none) (fun b z => absurd rfl z) (fun b u z => nomatch z) (fun z => absurd rfl z) (.inl ⟨rfl, fun H' => .inr ⟨_, vs.toArray, _, hk, rfl, rfl, rfl, by rw [List.size_toArray, lenV]; exact line, by simpa using rel⟩⟩)
  | none =>
    have at_ : (fun b => if b = a then some (HO.frz { cls := .type "list", data := .seq vs.toArray } (.lst (ns.map V.int))) else none) a = some (HO.frz { cls := .type "list", data := .seq vs.toArray } (.lst (ns.map V.int))) := if_pos rfl
    refine go (fun b => if b = a then some (.frz { cls := .type "list", data := .seq vs.toArray } (.lst (ns.map V.int))) else none) (fun b z => ?_) (fun b u z => ?_) (fun _ => ⟨hk, _, _, at_⟩) (.inr ⟨.inr ⟨_, at_⟩, by simp⟩)
    · by_cases hb : b = a
      · exact hb
      · exact absurd (if_neg hb) z
    · by_cases hb : b = a
      · subst hb
        have z := at_.symm.trans z
        cases z
        exact ⟨obj, by rw [List.length_map]; exact line, vs, _, rel, obj⟩
      · have z : (if b = a then some (HO.frz { cls := .type "list", data := .seq vs.toArray } (.lst (ns.map V.int))) else none) = some u := z
        rw [if_neg hb] at z
        cases z
/-- the goal that k_head leaves (case hc), from the law's promise over data -/
theorem walkD {l : PySem.W.OpenLaw} {k : Nat} {q : Program} {loose : List Str} {XP : (Str → Option Value) → Heap → Prop} {YP : World → Heap → Prop} {d : DefRec} {K : Params → PySem.W.Frag} {x : Str}
    (most : l.most = some 63) (nodef : d.params.defaults = []) (room : Room k callerA) (inK : ∀ (w : World) (h : Heap), YP w h → (K w.params).In h)
    (F : ∀ (w : World) (mg : Str → Option Value) (fa : Addr) (h : Heap), (K w.params).In h → h.Ns mainGlobals mg → mg d.name = some (.ref fa) →
      ∃ fd : FuncData, (∀ (s : Shared) (u : Value), BindsTo s fd ⟨[u], []⟩ [(x, u)]) ∧
        ∀ base : Heap, (K w.params).In base → base.Ns mainGlobals mg → FnG l.prog w (K w.params) mg base k fa fd [x] (LSp (K w.params) spLawD)) :
    PySem.W.WalkO q loose XP YP l.row.toRowW d [] (fun f vs => PySem.call f vs) := by
  refine Att.attach_call most nodef ?_
  intro w s0 s1 mg mb fa o pm cd doc a vs ns G Y ho hdo hcd hmg hobj hints hlen hgen
  obtain ⟨fd, bnd, hF⟩ := F w mg fa _ (inK w _ Y) G.T.g hmg
  exact lawG_call (inK w _ Y) G.T.g G.T.b G.T.builtins G.T.nolimit hgen hobj hints hlen room hF bnd
end DL

namespace DL
open PySem L2 PySem.Spec PyProof.Rows
/-! ### a def by its name -/
structure Fd (P : Program) (w : World) (K : PySem.W.Frag) (mg : Str → Option Value) (base : Heap) (x : Str) (k : Nat) (ps : List Str) (c : DSp) : Prop where
  ex : ∃ (f : Addr) (fd : FuncData), FnG P w K mg base k f fd ps (LSp K c) ∧ mg x = some (.ref f) ∧ PySem.W.keepIn K (.ref f) = true ∧ Binds K fd ps []
section
variable {O : Org} {X : Cx} {j : Nat} {ps : List Str} {c : DSp} {e : DX} {x : Str} {p pos : Pos} {a : Expr} {es : List Expr} {t : DTA}
theorem de_callF (h : Fd X.prog X.w X.K X.mg X.base x j ps c) (hr : Room j X.A) (hgd : X.A.guards = some []) (hx : Passes (L2N.CX X.prog X.w) X (LX X.K O e)) (hg : Gl X x) (ha : DA O X (a :: es) t) (hdb : (x == ("__debug__" : Str)) = false := by decide)
    (he : starEach (a :: es) X.env = (false, eval a X.env) :: starEach es X.env := by rfl) (hpl : (backTo pos (starEach es X.env)).any (·.1) = false := by rfl) : DE O X (.Call (.Name x p) (a :: es) [] pos) (dCall c e [] t) := by
  obtain ⟨f, fd, F, hm, hk, hb⟩ := h.ex
  exact de_call F hr hgd hg hm hk hb .nil (fun _ _ => RepL.nil) hx ha hdb he hpl
theorem de_callF0 (h : Fd X.prog X.w X.K X.mg X.base x j ps c) (hr : Room j X.A) (hgd : X.A.guards = some []) (hx : Passes (L2N.CX X.prog X.w) X (LX X.K O e)) (hg : Gl X x) (hdb : (x == ("__debug__" : Str)) = false := by decide) : DE O X (.Call (.Name x p) [] [] pos) (dCall c e [] dNil) := by
  obtain ⟨f, fd, F, hm, hk, hb⟩ := h.ex
  exact de_call0 F hr hgd hg hm hk hb .nil (fun _ _ => RepL.nil) hx hdb
/-- a name that is read for the last time: what it names is frozen -/
def dVarF (i : Nat) : DTE := fun δ μ q => match δ[i]? with
  | some (some (.adr p)) => match μ p with
    | some (.lst l) => q (.lst l) (delM μ p)
    | _ => False
  | some (some d) => q d μ
  | _ => False
theorem dvF (i : Nat) {x : Str} {pos : Pos} (hN : X.N[i]? = some x := by rfl) (hv : Vis X.env.scope x := by first | exact Or.inl rfl | exact Or.inr (Or.inl rfl) | exact Or.inr (Or.inr rfl)) (hd : (x == ("__debug__" : Str)) = false := by decide)
    (hcd : (x == ("__classdict__" : Str)) = false := by decide) : DE O X (.Name x pos) (dVarF i) := pe_weak (pe_var hN hv hd hcd) fun σ H Q ⟨F, δ, μ, q, hd, rs, t, k⟩ => by
  unfold dVarF at t
  split at t
  · rename_i p e
    obtain ⟨v, h1, h2⟩ := rs.at_ i _ e
    obtain rfl : v = .ref p := h2
    split at t
    · rename_i l hm
      obtain ⟨_, vs, h3, h4⟩ := hd.own p _ hm
      obtain ⟨hf, ex⟩ := hd.frz hm
      exact ⟨_, h1, k _ H _ (.lst l) (.ref p) ex hf ⟨p, vs, rfl, ⟨.inr rfl, h3⟩, h4.ext ex⟩ t⟩
    · exact t.elim
  · rename_i d _ e
    obtain ⟨v, h1, h2⟩ := rs.at_ i d e
    exact ⟨v, h1, k F H μ d v (Ext.refl F H) hd h2 t⟩
  · exact t.elim
/-- a built-in function of a module that is imported by its name (gcd) -/
theorem de_callFun {id : String} {r : List V → Hp → VK → Prop} {rd : DC2} (h : PE X (.Call (.Name x p) (a :: es) [] pos) (tCB r (LA X.K O t))) (hd : CallD X.K r rd) : DE O X (.Call (.Name x p) (a :: es) [] pos) (dCB rd t) := pe_weak h (lcb hd)
end
end DL

set_option Elab.async false
set_option linter.all false
set_option maxRecDepth 100000
set_option maxHeartbeats 2000000
namespace PySem
namespace ErrX
open PySem.W PySem.Calls PyProof.Rows PySem.HandSPX
/-! ### the text of __init__ -/
def iA (p1 p2 : Pos) : Arguments := { posonlyargs := [], args := [{ arg := "self", annotation := none, pos := p1 }, { arg := "value", annotation := none, pos := p2 }], vararg := none, kwonlyargs := [], kw_defaults := [], kwarg := none, defaults := [] }
def iB (q1 q2 q3 q4 : Pos) : List Stmt := [.Assign [.Attribute (.Name "self" q1) "value" q2] (.Name "value" q3) q4]
def iS : Scope := { kind := .function, names := [(PySem.Str.ofString "self", .local), (PySem.Str.ofString "value", .local)], isGenerator := false, isCoroutine := false, more := [] }
/-- what the written part says of Low, at C, and of its __init__, at fI -/
structure ErrTxt (K : Frag) (mg : Str → Option Value) (nm : Str) (C fI : Addr) : Prop where
  gC : mg nm = some (.ref C)
  cls : ∃ nm q N bs bm sn sub ab col dd k0 k1 k2 k3 k5, K.lookup C = some (excClassObj nm q C N bs bm true sn sub ab col dd k0 k1 k2 k3 k5 "ValueError.__new__") ∧ refsVE bm = true
  sa : findIn K (.ref C) "__setattr__" = some (some (.builtin "object.__setattr__"))
  ga : findIn K (.ref C) "__getattribute__" = some (some (.builtin "BaseException.__getattribute__"))
  gg : findIn K (.ref C) "__getattr__" = some none
  noN : findIn K (.ref C) "value" = some none
  iC : findIn K (.ref C) "__init__" = some (some (.ref fI))
  tC : typeIn K (.ref fI) = some (.type "function")
  kC : keepIn K (.ref C) = true
  exC : subIn K (.ref C) (.type "BaseException") = some true
  tyC : typeIn K (.ref C) = some (.type "type")
  hdC : hasDictIn K C = true
  te : exmOne K (.ref C) (.ref C) = some true
  fn : ∃ (oc : Value) (od : Option Addr) (doc pm : Value) (an : Option Addr) (cdv ct : Value) (osl : Array (Option Value)) (p1 p2 q1 q2 q3 q4 : Pos),
    K.lookup fI = some ⟨oc, od, .func (fnOf "__init__" "StrideError.__init__" (iA p1 p2) (iB q1 q2 q3 q4) iS .none .none doc pm an cdv ct), osl⟩ ∧ codeIn K cdv "StrideError.__init__" = true
theorem one_size (v : Value) : [v].length ≤ sizeLine := by
  rw [sizeLine_eq]
  exact (by decide : 1 ≤ 16777216)
theorem kept_but {K : Frag} {h h' : Heap} {x : Addr} (X : K.In h) (hx : K.lookup x = none) (k : ∀ b o, b ≠ x → h.get? b = some o → h'.get? b = some o) : K.In h' := fun a o e =>
  k a o (fun z => by rw [z, hx] at e; cases e) (X a o e)
theorem ldC {M : Model} {s : Shared} {name : Str} {scope : Scope} {L a : Addr} {cd : Value} {m : Str → Option Value} {x : Str} {pos : Pos} {v : Value} {Q : Value → Shared → Prop} {A : Around} {E : Value → Shared → Prop} (hn : s.heap.Ns L m) (hv : m x = some v) (h : Q v s)
    (hk : scope.kind = .function := by rfl) (hl : (envOfC name scope L a cd).kindOf x = some .local := by rfl) (hd : (x == ("__debug__" : Str)) = false := by decide) :
    wpAny M A (eval (.Name x pos) (envOfC name scope L a cd)) Q E s := wpAny_Name (wpAny_loadName_local hk hl hn hv h) hd
/-- what __init__ leaves of a fresh exception at x -/
structure InitEnd (h h' : Heap) (x C dx t1 : Addr) (v : Value) : Prop where
  keep : ∀ b o, b ≠ x → h.get? b = some o → h'.get? b = some o
  obj : h'.get? x = some { cls := .ref C, dict := some dx, data := .fields #[.ref t1, .none, .none, .none, .bool false, .none] }
  dbig : h.objs.size ≤ dx
  dne : dx ≠ x
  ns : h'.Ns1 dx (fun y => if y = "value" then some v else none)
/-- a made Low -/
structure OwnMade (h h' : Heap) (e C d : Addr) (v : Value) : Prop where
  keep : ∀ b o, h.get? b = some o → h'.get? b = some o
  new : h.objs.size ≤ e
  obj : ∃ oe vs, h'.get? e = some oe ∧ oe.cls = .ref C ∧ oe.dict = some d ∧ oe.data = .fields vs ∧ vs[1]? = some .none ∧ vs[2]? = some .none
  dbig : h.objs.size ≤ d
  dne : d ≠ e
  ns : h'.Ns1 d (fun y => if y = "value" then some v else none)
section
variable {prog : Program} {w : World} {A : Around} {E : Value → Shared → Prop} {R : Result → Shared → Prop} {s : Shared} {K : Frag} {mg : Str → Option Value} {nn : Str} {C fI : Addr}
theorem err_init (T : ErrTxt K mg nn C fI) {x t0 : Addr} {v : Value} (X : K.In s.heap) (hlim : s.heap.NoLimit) (hx : s.heap.get? x = some (excO C t0)) (hnx : K.lookup x = none) (hroom : A.depth < recursionLimit)
    (hq : ∀ h' tk dx, InitEnd s.heap h' x C dx t0 v → R (.ok (.ret .none)) { s with heap := h', toks := tk }) :
    codeAny (model prog w) A (.call (.ref fI) ⟨[.ref x, v], []⟩) R s := by
  obtain ⟨oc, od, doc, pm, an, cdv, ct, osl, p1, p2, q1, q2, q3, q4, ho, hcd⟩ := T.fn
  obtain ⟨nm, q, N, bs, bm, sn, sub, ab, col, dd, k0, k1, k2, k3, k5, hC, hbm⟩ := T.cls
  have hcl : clsIn K C = some { name := nm, bases := bs, mro := .ref C :: bm, ns := N, qualname := q, hasDict := true, slotNames := sn, subclasses := sub, abstract := ab, collection := col, hasDel := false } := by unfold clsIn; rw [hC] <;> rfl
  refine Att.call_fn (binds := [("self", .ref x), ("value", v)]) X hlim ho hcd hroom (BindsTo.of_eq (by first | rfl | with_unfolding_all rfl)) (by first | rfl | decide | with_unfolding_all rfl) (fun s₁ IC => ?_) rfl rfl rfl
  obtain ⟨h₁, tk₁, rfl⟩ := IC.toInCall.same
  have k : ∀ b o, s.heap.get? b = some o → h₁.get? b = some o := IC.toInCall.keep
  have hn := IC.toInCall.ns
  have hxL : s.heap.objs.size ≠ x := Nat.ne_of_gt (Heap.lt_size hx)
  have X₁ : K.In h₁ := X.keeps k
  have hx₁ := k _ _ hx
  -- self.by = by
  show wpAny _ _ (execs _ _) _ _ _
  refine wpAny_execs_cons (plainObj_wpAny_Assign_Attribute ?_)
  refine ldC (v := v) hn (by first | rfl | with_unfolding_all rfl | kernel_rfl) (ldC (v := .ref x) hn (by first | rfl | with_unfolding_all rfl | kernel_rfl) ?_)
  refine set_plain X₁ (ox := excO C t0) (od := none) ⟨hx₁, rfl, rfl, trivial⟩ T.sa ?_
  refine exc_osa X₁ hx₁ hcl (show refsVE (.ref C :: bm) = true from hbm) rfl T.noN (fun h₃ tk₃ dx k₃ dn dne hx₃ hn₃ => ?_)
  show wpAny _ _ (execs _ _) _ _ _
  have z : s.heap.objs.size < h₁.objs.size := hn.lt
  exact wpAny_execs_nil (hq h₃ tk₃ dx ⟨fun b o hb e => k₃ b o hb (k b o e), hx₃, Nat.le_of_lt (Nat.lt_of_lt_of_le z dn), dne, hn₃⟩)
theorem err_made (T : ErrTxt K mg nn C fI) {v : Value} (X : K.In s.heap) (hlim : s.heap.NoLimit) (hroom : A.depth + 1 < recursionLimit)
    (hq : ∀ h' tk e d, OwnMade s.heap h' e C d v → R (.ok (.ret (.ref e))) { s with heap := h', toks := tk }) :
    codeAny (model prog w) A (.call (.ref C) ⟨[v], []⟩) R s := by
  obtain ⟨nm, q, N, bs, bm, sn, sub, ab, col, dd, k0, k1, k2, k3, k5, hC, hbm⟩ := T.cls
  obtain ⟨hp, g, dr, tk, os⟩ := s
  have k : ∀ b o, hp.get? b = some o → ((hp.push (kdv_tup [v])).push (excO C hp.objs.size)).get? b = some o := fun b o e => Heap.get?_push_of_some _ (Heap.get?_push_of_some _ e)
  have hget : ((hp.push (kdv_tup [v])).push (excO C hp.objs.size)).get? (hp.objs.size + 1) = some (excO C hp.objs.size) := by heap_get
  have hnx : K.lookup (hp.objs.size + 1) = none := by
    cases e : K.lookup (hp.objs.size + 1) with
    | none => rfl
    | some o =>
      have z : hp.get? (hp.objs.size + 1) = some o := X _ _ e
      exact absurd (Nat.lt_of_succ_lt (Heap.lt_size z)) (Nat.lt_irrefl _)
  refine call_own F.excBase_ValueError (fun X => refsVE_contains X bm hbm) (X _ _ hC) (looks_findIn X T.iC) (fun self => bind_fn X self T.tC) (one_size v) ?_
  refine err_init (s := ⟨(hp.push (kdv_tup [v])).push (excO C hp.objs.size), g, dr, tk, os⟩) T (X.keeps k) (hlim.keeps k) hget hnx ?_ fun h' tk' dx ⟨k', hx, dn, dne, hns⟩ => ?_
  · show A.depth + 1 < recursionLimit
    exact hroom
  · have old : ∀ b o, hp.get? b = some o → h'.get? b = some o := fun b o e => k' b o (Nat.ne_of_lt (Nat.lt_succ_of_lt (Heap.lt_size e))) (k b o e)
    have z : hp.objs.size + 1 + 1 ≤ dx := by
      first
        | (simpa only [Heap.size_push] using dn)
        | exact dn
        | (have q := dn; rw [Heap.size_push, Heap.size_push] at q; exact q)
    exact ⟨rfl, hq h' tk' (hp.objs.size + 1) dx ⟨old, Nat.le_succ _, ⟨_, _, hx, rfl, rfl, rfl, rfl, rfl⟩, Nat.le_trans (Nat.le_trans (Nat.le_succ _) (Nat.le_succ _)) z, dne, hns⟩⟩
end
end ErrX
end PySem
namespace L2
open PySem PySem.Spec PyProof.Rows
theorem relO_err {v : V} {v' : Value} (r : RelV v v') (f : Str) : RelO (List.lookup f [(("value" : Str), v)]) (if f = "value" then some v' else none) := by
  by_cases hw : f = "value"
  · subst hw
    rw [if_pos rfl]
    have q : List.lookup ("value" : Str) [(("value" : Str), v)] = some v := by simp [List.lookup]
    rw [q]
    exact r
  · rw [if_neg hw]
    have qw : (f == ("value" : Str)) = false := by simpa using hw
    have q2 : List.lookup f [(("value" : Str), v)] = none := by simp [List.lookup, qw]
    rw [q2]
    trivial
section
variable {X : Cx} {nn : Str} {C fI : Addr}
/-- Low(e) -/
def tMkErr (C : Addr) (ta : TA) : St → Hp → XK → Prop := fun σ H Q => ta σ H fun vs H1 => ∃ v, vs = [v] ∧ ∀ d, H1 d = none → Q (.ref C) (some d) (upd H1 d (.xd [(("value" : Str), v)]))
theorem pmk_err {a : Expr} {ta : TA} {p pos : Pos} {k : Nat} (T : PySem.ErrX.ErrTxt X.K X.mg nn C fI) (hr : Room k X.A) (ha : PA X [a] ta) (hg : Gl X nn := by rfl) (hdb : (nn == ("__debug__" : Str)) = false := by decide)
    (he : starEach (a :: []) X.env = (false, eval a X.env) :: starEach [] X.env := by rfl) (hpl : (backTo pos (starEach [] X.env)).any (·.1) = false := by rfl) :
    L2N.PMk X (.Call (.Name nn p) [a] [] pos) (tMkErr C ta) := by
  intro pins s σ H Q I h
  refine wpAny_Call_Name_kw (ld_glob I hg T.gC ?_ hdb)
  refine PySem.W.callWith_K (h₀ := X.base) I.ok.mod.kin T.kC (thn (ha.run pos pins s σ H _ I h) fun us s1 hh => ?_) he hpl
  obtain ⟨vs, H1, I1, r1, v, ev, q1⟩ := hh
  subst ev
  refine ⟨I1.kIn, ?_⟩
  cases r1 with
  | cons rv rn =>
    rename_i v' us'
    cases rn
    show wpAny _ _ (call (.ref C) [v']) _ _ _
    have hlim := I1.nolimit
    obtain ⟨hp, g, dr, tk, os⟩ := s1
    refine wpAny_call (PySem.ErrX.err_made T I1.kIn hlim (by have := hr.dp; omega) fun h' tk' e d M => ?_)
    show L2N.MkP X pins σ Q (.ref e) ⟨h', g, dr, tk', os⟩
    obtain ⟨oe, fv, hoe, hc, hd, hdat, h1, h2⟩ := M.obj
    have hns := M.ns
    obtain ⟨G', g1, g2⟩ := restrict h' fun b => decide (b ≠ e)
    have gk : ∀ b, b ≠ e → G'.get? b = h'.get? b := fun b hb => g1 b (decide_eq_true hb)
    have ge : G'.get? e = none := g2 e (by simp)
    have old : ∀ b o, hp.get? b = some o → G'.get? b = some o := fun b o q => (gk b (Nat.ne_of_lt (Nat.lt_of_lt_of_le (Heap.lt_size q) M.new))).trans (M.keep b o q)
    have ob : ObjOk X.prog X.w (upd H1 d (.xd [(("value" : Str), v)])) G' d (.xd [(("value" : Str), v)]) :=
      ⟨_, hns.at (fun o q => (gk d M.dne).trans q), fun f => relO_err rv f⟩
    have J : Inv X pins σ (upd H1 d (.xd [(("value" : Str), v)])) ⟨G', g, dr, tk', os⟩ := I1.laid (t' := tk') old M.dbig ob
    refine ⟨e, oe, fv, ⟨G', g, dr, tk', os⟩, _, .ref C, some d, rfl, J, fun b o q => ?_, ge, hoe, ⟨hc, hd, fun vs e => by rw [hdat] at e; cases e; exact h2⟩, hdat, h1, ?_, rfl, I1.bare, raises_own T.exC T.tyC, q1 d (I1.hok.fresh M.dbig)⟩
    · by_cases hb : b = e
      · have q' : G'.get? b = some o := q
        rw [hb, ge] at q'; cases q'
      · exact (gk b hb).symm.trans q
    · rw [upd_ne (Ne.symm M.dne)]
      exact I1.hok.fresh M.new
/-- raise Low(e) -/
def tRaiseErr (C : Addr) (W : WX) (ta : TA) : TS := fun _ σ H => tMkErr C ta σ H fun cls d H' => W cls d σ H'
theorem ps_raiseErr {a : Expr} {ta : TA} {W : WX} {p pos pos2 : Pos} {k : Nat} (hc : X.calm = true) (T : PySem.ErrX.ErrTxt X.K X.mg nn C fI) (hr : Room k X.A) (tk : L2N.Takes X W) (ha : PA X [a] ta) (hg : Gl X nn := by rfl) (hdb : (nn == ("__debug__" : Str)) = false := by decide)
    (he : starEach (a :: []) X.env = (false, eval a X.env) :: starEach [] X.env := by rfl) (hpl : (backTo pos (starEach [] X.env)).any (·.1) = false := by rfl) :
    PS X (.Raise (some (.Call (.Name nn p) [a] [] pos)) none pos2) (tRaiseErr C W ta) := L2N.ps_raise hc tk (pmk_err T hr ha hg hdb he hpl)
/-- low.by, low the exception that the suite holds (at a; its class cls, its dict d) -/
def tByErr (C : Addr) (a : Addr) (cls : Value) (d : Option Addr) (te : TE) : TE := fun σ H Q => te σ H fun x H1 => x = .ref a ∧ cls = .ref C ∧ ∃ (dd : Addr) (v : V), d = some dd ∧ H1 dd = some (.xd [(("value" : Str), v)]) ∧ Q v H1
theorem pe_byErr {a : Addr} {oe : Obj} {cls : Value} {d : Option Addr} {pn : List (Addr × Obj)} {e : Expr} {te : TE} {pos : Pos} (T : PySem.ErrX.ErrTxt X.K X.mg nn C fI) (hz : Zc cls d oe) (hf : ∃ vs, oe.data = .fields vs) (he : PE (X.suite a ((a, oe) :: pn)) e te)
    (hb : attributeBase e "value" X.env (eval e X.env) = eval e X.env := by rfl) :
    PE (X.suite a ((a, oe) :: pn)) (.Attribute e "value" pos) (tByErr C a cls d te) := by
  refine ⟨fun pins s σ H Q I h => ?_⟩
  refine attr_of hb (thn (he.run pins s σ H _ I h) fun u s1 hh => ?_)
  obtain ⟨x, H1, I1, rx, ex, ec, dd, v, ed, ea, q⟩ := hh
  subst ex
  obtain rfl : u = Value.ref a := rx
  subst ec
  subst ed
  obtain ⟨ha, _⟩ := I1.pin (a, oe) (List.mem_append_left _ List.mem_cons_self)
  obtain ⟨vs, hd⟩ := hf
  have hx : ObjOk X.prog X.w H1 s1.heap dd (.xd [(("value" : Str), v)]) := I1.hok dd _ ea
  obtain ⟨mA, hns, hr⟩ := hx
  obtain ⟨od, ho, hl⟩ := lookIn_ns hns
  have l : List.lookup ("value" : Str) [(("value" : Str), v)] = some v := by simp [List.lookup]
  obtain ⟨u, hu, ru⟩ := RelO.some_of (v := v) (o := mA "value") (by rw [← l]; exact hr "value")
  have J : PySem.W.InstAt s1.heap a oe C (some od) := ⟨ha, hz.1, by unfold PySem.W.notCls; rw [hd] <;> rfl, by rw [hz.2]; exact ho⟩
  exact HandSPX.exc_get I1.kIn J T.ga T.gg T.exC (PySem.W.findObj_own T.hdC T.noN rfl (by rw [hl, hu])) (handed_of ru) ⟨v, H1, I1.tok _, ru, q⟩
end
end L2


namespace DL
open PySem L2 PySem.Spec PyProof.Rows
/-- raise X(e), X an own error over StrideError -/
def dRaise (C : Addr) (te : DTE) (e : DX) : DTS := fun _ δ μ => te δ μ fun d μ1 => e C d μ1
theorem Hd.newN {K : PySem.W.Frag} {O : Org} {F : Zo} {H : Hp} {μ : Mu} {p : Addr} {o : HO} (h : Hd K O F H μ) (hp : H p = none) : Hd K O F (upd H p o) μ := by
  refine ⟨h.org.trans (ext_new h hp), fun a f => ?_, fun a m e => ?_⟩
  · have z : a ≠ p := fun z => h.nf hp (z ▸ f)
    rw [upd_ne z]; exact h.fr a f
  · have z : a ≠ p := fun z => by rw [z, h.free hp] at e; cases e
    exact ⟨(h.own a m e).1, (h.own a m e).2.ext (ext_new h hp) (upd_ne z)⟩
theorem ds_raise {O : Org} {X : Cx} {nn : Str} {C fI : Addr} {a : Expr} {te : DTE} {e : DX} {p pos pos2 : Pos} {k : Nat} (hc : X.calm = true) (T : PySem.ErrX.ErrTxt X.K X.mg nn C fI) (hr : Room k X.A) (tk : L2N.Takes X (fun cls d _ H2 => LX X.K O e cls d H2)) (ha : DE O X a te) (hg : Gl X nn := by rfl) (hdb : (nn == ("__debug__" : Str)) = false := by decide)
    (he : starEach (a :: []) X.env = (false, eval a X.env) :: starEach [] X.env := by rfl) (hpl : (backTo pos (starEach [] X.env)).any (·.1) = false := by rfl) :
    DSt O X (.Raise (some (.Call (.Name nn p) [a] [] pos)) none pos2) (dRaise C te e) :=
  ps_weak (ps_raiseErr hc T hr tk (pa_cons ha pa_nil he) hg hdb he hpl) fun Z σ H ⟨F, δ, μ, E, hd, rs, t, L⟩ =>
    ⟨F, δ, μ, _, hd, rs, t, fun F1 H1 μ1 d v e1 hd1 r1 t1 => ⟨v, rfl, fun b hb => ⟨C, b, v, d, F1, μ1, rfl, rfl, upd_same, hd1.newN hb, r1.ext (ext_new hd1 hb), t1⟩⟩⟩
end DL
namespace DL
open PySem L2
def rGcdD : DC2 := fun ds μ q => match ds with | [.int a, .int b] => q (.int ((Nat.gcd a.natAbs b.natAbs : Nat) : Int)) μ | _ => False
theorem cd_gcd {K : PySem.W.Frag} : CallD K rGcd rGcdD := by
  intro O F H μ ds vs q Q hd rs t k
  unfold rGcdD at t
  split at t
  · rename_i i j
    obtain ⟨v, w, rfl, h1, h2⟩ := repL2 rs
    obtain rfl : v = .int i := h1
    obtain rfl : w = .int j := h2
    exact ⟨i, j, rfl, k F H μ _ _ (Ext.refl F H) hd rep_int t⟩
  · exact t.elim
end DL
namespace DL
open PySem L2 PySem.Spec PyProof.Rows
theorem exm_self {K : PySem.W.Frag} {S : Addr} (h1 : PySem.W.subIn K (.ref S) (.type "BaseException") = some true) (h2 : PySem.W.isClsIn K S = true) (h3 : PySem.W.typeIn K (.ref S) = some (.type "type")) (h4 : PySem.W.subIn K (.ref S) (.ref S) = some true) :
    PySem.W.exmOne K (.ref S) (.ref S) = some true := by
  have e1 : (PySem.W.subIn K (.ref S) (.type "BaseException") == some true) = true := by rw [h1] <;> rfl
  have e2 : ((PySem.W.clsIn K S).isSome && PySem.W.typeIn K (.ref S) == some (.type "type")) = true := by
    have h2' : (PySem.W.clsIn K S).isSome = true := h2
    rw [h2', h3] <;> rfl
  show (if (PySem.W.subIn K (.ref S) (.type "BaseException") == some true) = true then (if ((PySem.W.clsIn K S).isSome && PySem.W.typeIn K (.ref S) == some (.type "type")) = true then PySem.W.subIn K (.ref S) (.ref S) else none) else none) = some true
  rw [if_pos e1, if_pos e2]
  exact h4
end DL
namespace DL
open PySem L2
theorem atI_lt {α : Type} {l : List α} {k : Nat} {x : α} (h : l[k]? = some x) : atI l ((k : Nat) : Int) = some x := atI_nat h
theorem ix0 {α : Type} (a : α) (l : List α) : atI (a :: l) 0 = some a := atI_lt (k := 0) rfl
theorem ix1 {α : Type} (a b : α) (l : List α) : atI (a :: b :: l) 1 = some b := atI_lt (k := 1) rfl
theorem ix2 {α : Type} (a b c : α) (l : List α) : atI (a :: b :: c :: l) 2 = some c := atI_lt (k := 2) rfl
theorem ix3 {α : Type} (a b c d : α) (l : List α) : atI (a :: b :: c :: d :: l) 3 = some d := atI_lt (k := 3) rfl
theorem ix4 {α : Type} (a b c d e : α) (l : List α) : atI (a :: b :: c :: d :: e :: l) 4 = some e := atI_lt (k := 4) rfl
theorem ix5 {α : Type} (a b c d e f : α) (l : List α) : atI (a :: b :: c :: d :: e :: f :: l) 5 = some f := atI_lt (k := 5) rfl
theorem ix6 {α : Type} (a b c d e f g : α) (l : List α) : atI (a :: b :: c :: d :: e :: f :: g :: l) 6 = some g := atI_lt (k := 6) rfl
theorem ix7 {α : Type} (a b c d e f g h : α) (l : List α) : atI (a :: b :: c :: d :: e :: f :: g :: h :: l) 7 = some h := atI_lt (k := 7) rfl
theorem ix8 {α : Type} (a b c d e f g h i : α) (l : List α) : atI (a :: b :: c :: d :: e :: f :: g :: h :: i :: l) 8 = some i := atI_lt (k := 8) rfl
theorem ix9 {α : Type} (a b c d e f g h i j : α) (l : List α) : atI (a :: b :: c :: d :: e :: f :: g :: h :: i :: j :: l) 9 = some j := atI_lt (k := 9) rfl
theorem ix10 {α : Type} (a b c d e f g h i j k : α) (l : List α) : atI (a :: b :: c :: d :: e :: f :: g :: h :: i :: j :: k :: l) 10 = some k := atI_lt (k := 10) rfl
end DL

set_option Elab.async false
set_option linter.all false
set_option maxRecDepth 100000
/-! DR: repr of data; x in l -/
namespace DL
open PySem L2 PySem.Spec PyProof.Rows
theorem dp_list {K : PySem.W.Frag} {H : Hp} {a : Addr} {d : PyData} (h : Dp K H (.ref a) d) : (∃ ds, d = .list ds) ∨ ∃ ds, d = .tuple ds := by
  cases h with
  | lst _ _ => exact .inl ⟨_, rfl⟩
  | tup _ _ => exact .inr ⟨_, rfl⟩
theorem call_reprD {X : Cx} (hg : X.A.guards = some []) (hu : X.A.units + 66 < cLine) :
    CallR X (.builtin "repr") (fun xs H Q => ∃ a d, xs = [.ref a] ∧ Dp X.K H (.ref a) d ∧ SeqAt.shaped d = true ∧ d.showable = true ∧ d.shown.length ≤ sizeLine ∧ Q (.str d.shown) H) := by
  intro pins s σ H xs us Q I r h
  obtain ⟨a, d, rfl, hd, sd, hs, hz, q⟩ := h
  obtain ⟨u, rfl, rx⟩ := vals1 r
  cases rx
  obtain ⟨as, r1⟩ := Dp.reads I d _ _ hd rfl
  have hc := SeqAt.canLay_of_shaped sd
  have hdep : d.depth ≤ 64 := by
    unfold SeqAt.shaped at sd
    rw [Bool.and_eq_true] at sd
    exact of_decide_eq_true sd.2
  refine repr_of_reads' r1 hs (PyData.noDict_hsm (PyData.hasDict_of_canLay d hc)) hg (by omega) (fun _ _ e => e) (fun h' u tk hk => ?_) hz
  exact ⟨.str _, H, I.kept hk, ⟨_, rfl⟩, q⟩
/-- lists and tuples -/
def seqD : D → Bool
  | .tup _ => true
  | .lst _ => true
  | .rol _ => true
  | .adr _ => true
  | _ => false
def txt (d : D) : Str := (pyD d).shown
def shownOk (d : D) : Prop := (pyD d).showable = true ∧ (pyD d).shown.length ≤ sizeLine
def rReprD : DC2 := fun ds μ q => match ds with
  | [d] => seqD d = true ∧ plainD 64 (nrm μ d) = true ∧ shownOk (nrm μ d) ∧ q (.str (txt (nrm μ d))) μ
  | _ => False
section
variable {O : Org} {K : PySem.W.Frag}
theorem seq_ref {F : Zo} {H : Hp} {d : D} {v : V} (h : seqD d = true) (r : Rep K F H d v) : ∃ a, v = .ref a := by
  cases d <;> first
    | (simp [seqD] at h; done)
    | (obtain ⟨a, vs, rfl, _⟩ := r; exact ⟨a, rfl⟩)
    | (exact ⟨_, r⟩)
theorem cd_repr : CallD K (fun xs H Q => ∃ a d, xs = [.ref a] ∧ Dp K H (.ref a) d ∧ SeqAt.shaped d = true ∧ d.showable = true ∧ d.shown.length ≤ sizeLine ∧ Q (.str d.shown) H) rReprD := by
  intro O F H μ ds vs q Q hd rs t k
  unfold rReprD at t
  split at t
  · rename_i d
    obtain ⟨v, rfl, h1⟩ := repL1 rs
    obtain ⟨t1, t2, ⟨t3, t4⟩, t5⟩ := t
    obtain ⟨a, rfl⟩ := seq_ref t1 h1
    exact ⟨a, _, rfl, nrm_rep hd t2 h1, shaped_of t2, t3, t4, k F H μ (.str (txt (nrm μ d))) _ (Ext.refl F H) hd rfl t5⟩
  · exact t.elim
/-- x in l, of data -/
def ng : Bool → Bool → Bool
  | true, b => !b
  | false, b => b
def rInG (neg : Bool) : DR2 := fun x y μ q => match nrm μ y with
  | .lst l => plainD 64 (nrm μ x) = true ∧ plainD 64 (.lst l) = true ∧ q (.bl (ng neg (l.any fun z => eqD z (nrm μ x)))) μ
  | .rol l => plainD 64 (nrm μ x) = true ∧ plainD 64 (.lst l) = true ∧ q (.bl (ng neg (l.any fun z => eqD z (nrm μ x)))) μ
  | _ => False
theorem any_py (f : PyData → Bool) : ∀ l : List D, (pyDs l).any f = l.any fun z => f (pyD z)
  | [] => rfl
  | d :: l => by rw [pyDs, List.any_cons, List.any_cons, any_py f l]
theorem od_in : OpD K (rInD K) (rInG false) := by
  intro O F H μ x y v w q Q hd rx ry t k
  have main : ∀ l, (nrm μ y = .lst l ∨ nrm μ y = .rol l) → plainD 64 (nrm μ x) = true → plainD 64 (.lst l) = true → q (.bl (l.any fun z => eqD z (nrm μ x))) μ → rInD K v w H Q := fun l hy p1 p2 t => by
    have e : pyD (nrm μ y) = .list (pyDs l) := by rcases hy with h | h <;> rw [h] <;> rfl
    have py : plainD 64 (nrm μ y) = true := by rcases hy with h | h <;> rw [h] <;> exact p2
    have hl := nrm_rep hd py ry
    rw [e] at hl
    have hs := shaped_of py
    rw [e] at hs
    refine ⟨_, _, nrm_rep hd p1 rx, hl, shaped_of p1, hs, k F H μ (.bl (l.any fun z => eqD z (nrm μ x))) _ (Ext.refl F H) hd ?_ t⟩
    rw [any_py]; rfl
  unfold rInG at t
  split at t
  · rename_i l hl
    exact main l (.inl hl) t.1 t.2.1 t.2.2
  · rename_i l hl
    exact main l (.inr hl) t.1 t.2.1 t.2.2
  · exact t.elim
theorem od_notIn : OpD K (rNotInD K) (rInG true) := by
  intro O F H μ x y v w q Q hd rx ry t k
  have main : ∀ l, (nrm μ y = .lst l ∨ nrm μ y = .rol l) → plainD 64 (nrm μ x) = true → plainD 64 (.lst l) = true → q (.bl (!l.any fun z => eqD z (nrm μ x))) μ → rNotInD K v w H Q := fun l hy p1 p2 t => by
    have e : pyD (nrm μ y) = .list (pyDs l) := by rcases hy with h | h <;> rw [h] <;> rfl
    have py : plainD 64 (nrm μ y) = true := by rcases hy with h | h <;> rw [h] <;> exact p2
    have hl := nrm_rep hd py ry
    rw [e] at hl
    have hs := shaped_of py
    rw [e] at hs
    refine ⟨_, _, nrm_rep hd p1 rx, hl, shaped_of p1, hs, k F H μ (.bl (!l.any fun z => eqD z (nrm μ x))) _ (Ext.refl F H) hd ?_ t⟩
    rw [any_py]; rfl
  unfold rInG at t
  split at t
  · rename_i l hl
    exact main l (.inl hl) t.1 t.2.1 t.2.2
  · rename_i l hl
    exact main l (.inr hl) t.1 t.2.1 t.2.2
  · exact t.elim
end
end DL

set_option Elab.async false
set_option linter.all false
set_option maxRecDepth 100000
/-! DK: a def called with keywords, over data -/
namespace DL
open PySem L2
def pick {α : Type} (perm : List Nat) (xs : List α) : List α := perm.filterMap fun i => xs[i]?
theorem pick_cons {α : Type} (i : Nat) (perm : List Nat) (xs : List α) : pick (i :: perm) xs = (match xs[i]? with | some x => x :: pick perm xs | none => pick perm xs) := by
  unfold pick
  rw [List.filterMap_cons]
  cases xs[i]? <;> rfl
theorem vals_pick {zs : List V} {ws : List Value} (r : Vals zs ws) : ∀ perm : List Nat, Vals (pick perm zs) (pick perm ws)
  | [] => .nil
  | i :: perm => by
    rw [pick_cons, pick_cons]
    cases e : zs[i]? with
    | none => rw [r.none_of e]; exact vals_pick r perm
    | some x =>
      obtain ⟨u, h1, h2⟩ := r.get e
      rw [h1]
      exact .cons h2 (vals_pick r perm)
theorem repL_pick {K : PySem.W.Frag} {F : Zo} {H : Hp} {zs : List D} {ws : List V} (r : RepL K F H zs ws) : ∀ perm : List Nat, RepL K F H (pick perm zs) (pick perm ws)
  | [] => RepL.nil
  | i :: perm => by
    rw [pick_cons, pick_cons]
    cases e : zs[i]? with
    | none =>
      have : ws[i]? = none := List.getElem?_eq_none_iff.mpr (by rw [← r.length]; exact List.getElem?_eq_none_iff.mp e)
      rw [this]; exact repL_pick r perm
    | some x =>
      obtain ⟨u, h1, h2⟩ := r.get e
      rw [h1]
      exact .cons h2 (repL_pick r perm)
structure KwB (fd : FuncData) (ps ks : List Str) (n : Nat) (perm : List Nat) : Prop where
  to : ∀ (s : Shared) (us ws : List Value), us.length = n → ws.length = ks.length → BindsTo s fd ⟨us, ks.zip ws⟩ (ps.zip (us ++ pick perm ws))
structure FdK (P : Program) (w : World) (K : PySem.W.Frag) (mg : Str → Option Value) (base : Heap) (x : Str) (k : Nat) (ps : List Str) (c : DSp) (ks : List Str) (n : Nat) (perm : List Nat) : Prop where
  ex : ∃ (f : Addr) (fd : FuncData), FnG P w K mg base k f fd ps (LSp K c) ∧ mg x = some (.ref f) ∧ PySem.W.keepIn K (.ref f) = true ∧ KwB fd ps ks n perm
abbrev DKw (O : Org) (X : Cx) (kws : List Keyword) (t : DTA) : Prop := PK X kws (LA X.K O t)
def dCallK (c : DSp) (e : DX) (n m : Nat) (perm : List Nat) (ta tk : DTA) : DTE := fun δ μ q => ta δ μ fun ds μ1 => tk δ μ1 fun zs μ2 => ds.length = n ∧ zs.length = m ∧ c (ds ++ pick perm zs) μ2 q e
section
variable {O : Org} {X : Cx} {k j n : Nat} {f : Addr} {fd : FuncData} {ps ks : List Str} {c : DSp} {e : DX} {x : Str} {p pos kpos : Pos} {a : Expr} {es : List Expr} {t tk : DTA} {ta : DTE} {kws : List Keyword} {perm : List Nat} {nm : Option Str} {sp : Sp} {E : XK}
theorem pk_weak {t t' : TA} (h : PK X kws t) (w : ∀ σ H Q, t' σ H Q → t σ H Q) : PK X kws t' := ⟨fun pos pins s σ H Q I q => h.run pos pins s σ H Q I (w σ H Q q)⟩
theorem dk_nil : DKw O X [] dNil := pk_weak pk_nil fun σ H Q ⟨F, δ, μ, q, hd, rs, t, k⟩ => k F H μ [] [] (Ext.refl F H) hd RepL.nil t
theorem dk_cons (ha : DE O X a ta) (hr : DKw O X kws t) : DKw O X (⟨nm, a, kpos⟩ :: kws) (dCons ta t) :=
  pk_weak (pk_cons ha hr) fun σ H Q ⟨F, δ, μ, q, hd, rs, t, k⟩ =>
    ⟨F, δ, μ, _, hd, rs, t, fun F1 H1 μ1 d v e1 hd1 r1 t1 => ⟨F1, δ, μ1, _, hd1, rs.ext e1, t1, fun F2 H2 μ2 ds vs e2 hd2 r2 t2 =>
      k F2 H2 μ2 _ _ (e1.trans e2) hd2 (.cons (r1.ext e2) r2) t2⟩⟩
def tCallKG (sp : Sp) (n m : Nat) (perm : List Nat) (E : XK) (t tk : TA) : TE := fun σ H Q => t σ H fun vs H1 => tk σ H1 fun zs H2 => vs.length = n ∧ zs.length = m ∧ sp (vs ++ pick perm zs) H2 Q E
theorem run_fnGK {pins : List (Addr × Obj)} {σ : L2.St} {H : Hp} {s : Shared} {Q : VK} {us ws : List Value} {vs zs : List V} (F : FnG X.prog X.w X.K X.mg X.base k f fd ps sp) (hr : Room k X.A) (hgd : X.A.guards = some []) (hb : KwB fd ps ks n perm) (hx : Passes (L2N.CX X.prog X.w) X E)
    (I : Inv X pins σ H s) (r : Vals vs us) (rz : Vals zs ws) (h1 : vs.length = n) (h2 : zs.length = ks.length) (h : sp (vs ++ pick perm zs) H Q E) : wpAny (model X.prog X.w) X.A (call (.ref f) us (ks.zip ws)) (EP X pins σ Q) X.xe s := by
  have rel := r.append (vals_pick rz perm)
  refine wpAny_call (codeAny_mono (F.run X.A X.stack s H ⟨us, ks.zip ws⟩ _ _ Q E hr hgd I.env0 (hb.to s us ws (r.length.symm.trans h1) (rz.length.symm.trans h2)) rel h) ?_)
  intro res s2 end2
  match res, end2 with
  | .error e, end2 => exact hx pins σ H s e s2 I end2
  | .ok (.ret u), end2 => exact I.after end2
theorem pe_callGK {t tk : TA} (F : FnG X.prog X.w X.K X.mg X.base k f fd ps sp) (hr : Room k X.A) (hgd : X.A.guards = some []) (hg : Gl X x) (hm : X.mg x = some (.ref f)) (hk : PySem.W.keepIn X.K (.ref f) = true) (hb : KwB fd ps ks n perm) (hx : Passes (L2N.CX X.prog X.w) X E)
    (ha : PA X (a :: es) t) (hkw : PK X kws tk) (hall : (backToKw pos (keywordEach kws X.env)).all (·.1.isSome) = true) (hks : (backToKw pos (keywordEach kws X.env)).filterMap (·.1) = ks)
    (hdb : (x == ("__debug__" : Str)) = false) (he : starEach (a :: es) X.env = (false, eval a X.env) :: starEach es X.env)
    (hpl : ((backTo pos (starEach (a :: es) X.env)).any (·.1) || (backToKw pos (keywordEach kws X.env)).any (·.1.isNone)) = false) :
    PE X (.Call (.Name x p) (a :: es) kws pos) (tCallKG sp n ks.length perm E t tk) := by
  constructor
  intro pins s σ H Q I h
  refine wpAny_Call_Name_kw (ld_glob I hg hm ?_ hdb)
  refine PySem.W.callWith_KW (h₀ := X.base) I.ok.mod.kin hk hall (thn (ha.run pos pins s σ H _ I h) ?_) hpl he
  rintro us s1 ⟨vs, H1, I1, r, q⟩
  refine thn (hkw.run pos pins s1 σ H1 _ I1 q) ?_
  rintro ws s2 ⟨zs, H2, I2, rz, l1, l2, q2⟩
  refine ⟨I2.kIn, ?_⟩
  rw [hks]
  exact run_fnGK F hr hgd hb hx I2 r rz l1 l2 q2
theorem pe_callGK0 {tk : TA} (F : FnG X.prog X.w X.K X.mg X.base k f fd ps sp) (hr : Room k X.A) (hgd : X.A.guards = some []) (hg : Gl X x) (hm : X.mg x = some (.ref f)) (hk : PySem.W.keepIn X.K (.ref f) = true) (hb : KwB fd ps ks 0 perm) (hx : Passes (L2N.CX X.prog X.w) X E)
    (hkw : PK X kws tk) (hall : (backToKw pos (keywordEach kws X.env)).all (·.1.isSome) = true) (hks : (backToKw pos (keywordEach kws X.env)).filterMap (·.1) = ks)
    (hdb : (x == ("__debug__" : Str)) = false) (hpl : ((backTo pos (starEach [] X.env)).any (·.1) || (backToKw pos (keywordEach kws X.env)).any (·.1.isNone)) = false) :
    PE X (.Call (.Name x p) [] kws pos) (tCallKG sp 0 ks.length perm E tNil tk) := by
  constructor
  intro pins s σ H Q I h
  refine wpAny_Call_Name_kw (ld_glob I hg hm ?_ hdb)
  refine PySem.W.callWith_KW0 (h₀ := X.base) I.ok.mod.kin hk hall ?_ hpl
  refine thn (hkw.run pos pins s σ H _ I h) ?_
  rintro ws s2 ⟨zs, H2, I2, rz, l1, l2, q2⟩
  refine ⟨I2.kIn, ?_⟩
  rw [hks]
  exact run_fnGK F hr hgd hb hx I2 .nil rz l1 l2 q2
theorem lcallk {K : PySem.W.Frag} {m : Nat} : ∀ σ H Q, LE K O (dCallK c e n m perm t tk) σ H Q → tCallKG (LSp K c) n m perm (LX K O e) (LA K O t) (LA K O tk) σ H Q := fun σ H Q ⟨F, δ, μ, q, hd, rs, t, k⟩ =>
  ⟨F, δ, μ, _, hd, rs, t, fun F1 H1 μ1 ds vs e1 hd1 r1 t1 => ⟨F1, δ, μ1, _, hd1, rs.ext e1, t1, fun F2 H2 μ2 zs us e2 hd2 r2 ⟨l1, l2, t2⟩ =>
    ⟨by rw [← r1.length]; exact l1, by rw [← r2.length]; exact l2, F2, μ2, ds ++ pick perm zs, q, e, hd2.here, (r1.ext e2).append (repL_pick r2 perm), t2, fun F3 H3 μ3 d v hd3 r3 q3 => by
    obtain ⟨h1, h2⟩ := hd2.back hd3
    exact k F3 H3 μ3 d v ((e1.trans e2).trans h2) h1 r3 q3, fun cls dd H' ⟨C, b, v, d, F', μ', h1, h2, h3, h4, h5, h6⟩ => ⟨C, b, v, d, F', μ', h1, h2, h3, (hd2.back h4).1, h5, h6⟩⟩⟩⟩
theorem de_callFK {m : Nat} (h : FdK X.prog X.w X.K X.mg X.base x j ps c ks n perm) (hr : Room j X.A) (hgd : X.A.guards = some []) (hx : Passes (L2N.CX X.prog X.w) X (LX X.K O e)) (hg : Gl X x) (ha : DA O X (a :: es) t) (hkw : DKw O X kws tk) (hdb : (x == ("__debug__" : Str)) = false := by decide)
    (hall : (backToKw pos (keywordEach kws X.env)).all (·.1.isSome) = true := by rfl) (hks : (backToKw pos (keywordEach kws X.env)).filterMap (·.1) = ks := by rfl)
    (he : starEach (a :: es) X.env = (false, eval a X.env) :: starEach es X.env := by rfl) (hpl : ((backTo pos (starEach (a :: es) X.env)).any (·.1) || (backToKw pos (keywordEach kws X.env)).any (·.1.isNone)) = false := by rfl) (hml : m = ks.length := by rfl) : DE O X (.Call (.Name x p) (a :: es) kws pos) (dCallK c e n m perm t tk) := by
  subst hml
  obtain ⟨f, fd, F, hm, hk, hb⟩ := h.ex
  exact pe_weak (pe_callGK F hr hgd hg hm hk hb hx ha hkw hall hks hdb he hpl) lcallk
theorem de_callFK0 {m : Nat} (h : FdK X.prog X.w X.K X.mg X.base x j ps c ks 0 perm) (hr : Room j X.A) (hgd : X.A.guards = some []) (hx : Passes (L2N.CX X.prog X.w) X (LX X.K O e)) (hg : Gl X x) (hkw : DKw O X kws tk) (hdb : (x == ("__debug__" : Str)) = false := by decide)
    (hall : (backToKw pos (keywordEach kws X.env)).all (·.1.isSome) = true := by rfl) (hks : (backToKw pos (keywordEach kws X.env)).filterMap (·.1) = ks := by rfl)
    (hpl : ((backTo pos (starEach [] X.env)).any (·.1) || (backToKw pos (keywordEach kws X.env)).any (·.1.isNone)) = false := by rfl) (hml : m = ks.length := by rfl) : DE O X (.Call (.Name x p) [] kws pos) (dCallK c e 0 m perm dNil tk) := by
  subst hml
  obtain ⟨f, fd, F, hm, hk, hb⟩ := h.ex
  refine pe_weak (pe_callGK0 F hr hgd hg hm hk hb hx hkw hall hks hdb hpl) fun σ H Q h => ?_
  have := lcallk σ H Q h
  obtain ⟨F1, δ, μ, q, hd1, rs, t1, k1⟩ := this
  exact k1 F1 H μ [] [] (Ext.refl _ _) hd1 RepL.nil t1
theorem Ctx.u65 (C : Ctx O X k e) : X.A.units + 65 < cLine := by have := C.room.un; omega
theorem Ctx.u66 (C : Ctx O X k e) : X.A.units + 66 < cLine := by have := C.room.un; omega
/-- how its arguments bind -/
theorem kwb_of {K : PySem.W.Frag} {q : Str} {st : Stmt} (F : Fun K x q st f fd)
    (h : ∀ (kV doc pm : Value) (an : Option Addr) (cdv ct : Value) (us ws : List Value), us.length = n → ws.length = ks.length → bindArgs (PySem.W.fnOf x q (defArgs st) (defBody st) (defScope st) .none kV doc pm an cdv ct) ⟨us, ks.zip ws⟩ = pure (ps.zip (us ++ pick perm ws))) : KwB fd ps ks n perm := by
  obtain ⟨oc, od, kV, doc, pm, an, cdv, ct, osl, rfl, lk, hcd⟩ := F.ex
  exact ⟨fun s us ws h1 h2 => .of_eq (h kV doc pm an cdv ct us ws h1 h2)⟩
end
end DL

set_option Elab.async false
set_option linter.all false
set_option maxRecDepth 100000
/-! DG: range with a step; list(range(..)) -/
namespace DL
open PySem L2
/-- lo, lo + c, .. -/
def stepsD (lo c : Int) (n : Nat) : List D := (List.range n).map fun i => D.int (lo + (i : Nat) * c)
def diRng3 (ta : DTA) : DTI := fun δ μ q => ta δ μ fun ds μ1 => match ds with | [.int i, .int j, .int c] => ∃ n : Nat, RgC i j c n ∧ q (stepsD i c n) (fun _ => True) μ1 | _ => False
theorem itok_steps {O : Org} {K : PySem.W.Frag} {F : Zo} {H : Hp} (lo c : Int) (n : Nat) : ItOk K O F H (stepsD lo c n) (fun _ => True) (Itc lo c n) := by
  have hl : (stepsD lo c n).length = n := by simp [stepsD]
  refine ⟨fun i F2 H2 μ2 _ _ _ h => by rw [hl] at h; exact h, fun i F2 H2 μ2 x H3 e hd _ h ⟨h1, h2⟩ => ?_, fun i F2 H2 μ2 _ _ _ h => by rw [hl] at h; exact h⟩
  subst h1 h2
  rw [hl] at h
  exact ⟨F2, .int (lo + i * c), Ext.refl _ _, hd, by simp [stepsD, h], rfl⟩
theorem repL3 {K : PySem.W.Frag} {F : Zo} {H : Hp} {a b c : D} {vs : List V} (r : RepL K F H [a, b, c] vs) : ∃ u v w, vs = [u, v, w] ∧ Rep K F H a u ∧ Rep K F H b v ∧ Rep K F H c w := by
  obtain ⟨u, r', rfl, h1, v, r2, rfl, h2, w, r3, rfl, h3, h4⟩ := r
  obtain rfl : r3 = [] := h4
  exact ⟨u, v, w, rfl, h1, h2, h3⟩
section
variable {O : Org} {X : Cx} {tg e a b c : Expr} {ta tb : DTE} {t : DTA} {pos p p2 pos2 : Pos}
theorem di_range3 (hg : Gl X "range") (hm : X.mg "range" = none) (ha : DA O X [a, b, c] t) (hs : starEach [a, b, c] X.env = (false, eval a X.env) :: starEach [b, c] X.env := by rfl) (hpl : (backTo pos (starEach [b, c] X.env)).any (·.1) = false := by rfl) :
    DI O X tg (.Call (.Name "range" p) [a, b, c] [] pos) (diRng3 t) :=
  pi_weak (pi_range3 hg hm ha hs hpl) fun σ H R ⟨F, δ, μ, q, hd, rs, t, k⟩ => ⟨F, δ, μ, _, hd, rs, t, fun F1 H1 μ1 ds vs e1 hd1 r1 t1 => by
    match ds, t1 with
    | [.int i, .int j, .int c], ⟨n, h, t1⟩ =>
      obtain ⟨u, v, w, rfl, h1, h2, h3⟩ := repL3 r1
      obtain rfl : u = .int i := h1
      obtain rfl : v = .int j := h2
      obtain rfl : w = .int c := h3
      exact ⟨i, j, c, n, rfl, h, k F1 H1 μ1 _ _ _ e1 hd1 (itok_steps i c n) t1⟩⟩
/-- list(range(a, b)) -/
def dLstRg (ta tb : DTE) : DTE := fun δ μ q => ta δ μ fun x μ1 => tb δ μ1 fun y μ2 => match x, y with
  | .int i, .int j => RgOk i j ∧ q (.lst (intsD i (j - i).toNat)) μ2
  | _, _ => False
def dLstRgM (ta tb : DTE) : DTE := fun δ μ q => ta δ μ fun x μ1 => tb δ μ1 fun y μ2 => match x, y with
  | .int i, .int j => RgOk i j ∧ ∀ p, μ2 p = none → q (.adr p) (updM μ2 p (.lst (intsD i (j - i).toNat)))
  | _, _ => False
theorem rg_rep {K : PySem.W.Frag} {F : Zo} {H : Hp} (i j : Int) : RepL K F H (intsD i (j - i).toNat) (rgV i j) := by
  have := RepL.of_ints (K := K) (F := F) (H := H) ((List.range (j - i).toNat).map fun k => i + (k : Nat))
  rw [List.map_map, List.map_map] at this
  exact this
theorem de_listRg2 (hc : X.calm = true) (hl : Gl X "list") (hml : X.mg "list" = none) (hg : Gl X "range") (hm : X.mg "range" = none) (ha : DE O X a ta) (hb : DE O X b tb)
    (na : starEach [a, b] X.env = (false, eval a X.env) :: starEach [b] X.env := by rfl) (nb : starEach [b] X.env = (false, eval b X.env) :: starEach [] X.env := by rfl) (hp : (backTo pos2 (starEach [b] X.env)).any (·.1) = false := by rfl)
    (ne : starEach [Expr.Call (.Name "range" p2) [a, b] [] pos2] X.env = (false, eval (.Call (.Name "range" p2) [a, b] [] pos2) X.env) :: starEach [] X.env := by rfl) :
    DE O X (.Call (.Name "list" p) [.Call (.Name "range" p2) [a, b] [] pos2] [] pos) (dLstRg ta tb) :=
  pe_weak (pe_listRg hc hl hml (prg_2 hg hm ha hb na nb hp) ne) fun σ H Q ⟨F, δ, μ, q, hd, rs, t, k⟩ =>
  ⟨F, δ, μ, _, hd, rs, t, fun F1 H1 μ1 x v e1 hd1 r1 t1 => ⟨F1, δ, μ1, _, hd1, rs.ext e1, t1, fun F2 H2 μ2 y u e2 hd2 r2 t2 => by
    have r1 := r1.ext e2
    match x, y, t2, r1, r2 with
    | .int i, .int j, ⟨ok, t2⟩, r1, r2 =>
    obtain rfl : v = .int i := r1
    obtain rfl : u = .int j := r2
    exact ⟨i, j, rfl, rfl, ok, fun q hq => k _ _ μ2 (.lst _) (.ref q) ((e1.trans e2).trans (ext_newF hd2 hq)) (hd2.newF hq) ⟨q, _, rfl, ⟨.inr rfl, upd_same⟩, rg_rep i j⟩ t2⟩⟩⟩
theorem de_listRg2M (hc : X.calm = true) (hl : Gl X "list") (hml : X.mg "list" = none) (hg : Gl X "range") (hm : X.mg "range" = none) (ha : DE O X a ta) (hb : DE O X b tb)
    (na : starEach [a, b] X.env = (false, eval a X.env) :: starEach [b] X.env := by rfl) (nb : starEach [b] X.env = (false, eval b X.env) :: starEach [] X.env := by rfl) (hp : (backTo pos2 (starEach [b] X.env)).any (·.1) = false := by rfl)
    (ne : starEach [Expr.Call (.Name "range" p2) [a, b] [] pos2] X.env = (false, eval (.Call (.Name "range" p2) [a, b] [] pos2) X.env) :: starEach [] X.env := by rfl) :
    DE O X (.Call (.Name "list" p) [.Call (.Name "range" p2) [a, b] [] pos2] [] pos) (dLstRgM ta tb) :=
  pe_weak (pe_listRg hc hl hml (prg_2 hg hm ha hb na nb hp) ne) fun σ H Q ⟨F, δ, μ, q, hd, rs, t, k⟩ =>
  ⟨F, δ, μ, _, hd, rs, t, fun F1 H1 μ1 x v e1 hd1 r1 t1 => ⟨F1, δ, μ1, _, hd1, rs.ext e1, t1, fun F2 H2 μ2 y u e2 hd2 r2 t2 => by
    have r1 := r1.ext e2
    match x, y, t2, r1, r2 with
    | .int i, .int j, ⟨ok, t2⟩, r1, r2 =>
    obtain rfl : v = .int i := r1
    obtain rfl : u = .int j := r2
    exact ⟨i, j, rfl, rfl, ok, fun q hq => k _ _ _ (.adr q) (.ref q) ((e1.trans e2).trans (ext_new hd2 hq)) (hd2.newM (m := .lst (intsD i (j - i).toNat)) hq ⟨_, upd_same, rg_rep i j⟩) rfl (t2 q (hd2.free hq))⟩⟩⟩
end
end DL

set_option linter.all false
namespace DL
open PySem L2
theorem RgC_up {i j c : Int} (c0 : 0 < c) (c1 : c < 1000000) (i0 : -(2 ^ 60) ≤ i) (ij : i < j) (j1 : j < 2 ^ 60) : RgC i j c ((j - i - 1) / c + 1).toNat := by
  have q0 : 0 ≤ (j - i - 1) / c := Int.ediv_nonneg (by omega) (by omega)
  have q1 : (j - i - 1) / c ≤ j - i - 1 := Int.ediv_le_self _ (by omega)
  have e : Builtin.Range.rangeSize i j c = (j - i - 1) / c + 1 := by
    unfold Builtin.Range.rangeSize
    rw [if_pos (show c > 0 from c0), if_pos ij]
  refine ⟨by omega, by omega, ?_, by rw [e]; omega⟩
  unfold Builtin.Range.small
  rw [e]
  simp only [Builtin.Range.rangeFitsLong, Bool.and_eq_true, Bool.or_eq_true, decide_eq_true_eq, beq_iff_eq, show c > 0 from c0, if_true]
  omega
end DL

set_option Elab.async false
set_option linter.all false
set_option maxRecDepth 100000
/-! DO: objects with fields, over data -/
namespace DL
open PySem L2
section
variable {K : PySem.W.Frag} {F : Zo} {H : Hp}
theorem zip_rep {f : Str} : ∀ {ns : List Str} {l : List D} {vs : List V} {d : D}, RepL K F H l vs → (ns.zip l).lookup f = some d → ∃ v, (ns.zip vs).lookup f = some v ∧ Rep K F H d v
  | [], l, vs, d, r, e => by simp at e
  | n :: ns, [], vs, d, r, e => by simp at e
  | n :: ns, x :: l, vs, d, r, e => by
    obtain ⟨v, r', rfl, h1, h2⟩ := r
    rw [List.zip_cons_cons, List.lookup_cons] at e ⊢
    cases z : (f == n) with
    | true =>
      rw [z] at e
      obtain rfl := Option.some.inj e
      exact ⟨v, rfl, h1⟩
    | false =>
      rw [z] at e
      exact zip_rep h2 e
/-- a field: its place among the names -/
def putN (f : Str) (y : D) : List Str → List D → List Str × List D
  | [], _ => ([f], [y])
  | n :: ns, [] => ([f], [y])
  | n :: ns, x :: l => if n = f then (n :: ns, y :: l) else (n :: (putN f y ns l).1, x :: (putN f y ns l).2)
theorem putN_rep {f : Str} {y : D} {u : V} (hu : Rep K F H y u) : ∀ {ns : List Str} {l : List D} {vs : List V}, ns.length = vs.length → RepL K F H l vs →
    ∃ vs', putF f u (ns.zip vs) = (putN f y ns l).1.zip vs' ∧ (putN f y ns l).1.length = vs'.length ∧ RepL K F H (putN f y ns l).2 vs'
  | [], l, [], _, r => ⟨[u], rfl, rfl, .cons hu RepL.nil⟩
  | [], _, _ :: _, h, _ => by simp at h
  | _ :: _, _, [], h, _ => by simp at h
  | n :: ns, [], v :: vs, _, r => by have : v :: vs = [] := r; cases this
  | n :: ns, x :: l, v :: vs, h, r => by
    obtain ⟨v', r', e, h1, h2⟩ := r
    cases e
    have hl : ns.length = vs.length := by simpa using h
    by_cases z : n = f
    · have e1 : putF f u ((n :: ns).zip (v :: vs)) = (n, u) :: ns.zip vs := by
        rw [List.zip_cons_cons]; exact if_pos z
      have e2 : putN f y (n :: ns) (x :: l) = (n :: ns, y :: l) := if_pos z
      rw [e1, e2]
      exact ⟨u :: vs, rfl, by simpa using h, .cons hu h2⟩
    · obtain ⟨vs', p1, p2, p3⟩ := putN_rep hu hl h2
      have e1 : putF f u ((n :: ns).zip (v :: vs)) = (n, v) :: putF f u (ns.zip vs) := by
        rw [List.zip_cons_cons]; exact if_neg z
      have e2 : putN f y (n :: ns) (x :: l) = (n :: (putN f y ns l).1, x :: (putN f y ns l).2) := if_neg z
      rw [e1, e2, p1]
      exact ⟨v :: vs', rfl, by simp [p2], .cons h1 p3⟩
end
/-- e.f, a field of an object of C -/
def dFld (C : Addr) (f : Str) (te : DTE) : DTE := fun δ μ q => te δ μ fun x μ1 => match x with
  | .ins C' ns l => C' = C ∧ ∃ d, (ns.zip l).lookup f = some d ∧ q d μ1
  | .adr p => ∃ ns l d, μ1 p = some (.obj C ns l) ∧ (ns.zip l).lookup f = some d ∧ q d μ1
  | _ => False
/-- o.f = value -/
def dsFld (C : Addr) (f : Str) (ta tv : DTE) : DTS := fun E δ μ => tv δ μ fun y μ1 => ta δ μ1 fun x μ2 => match x with
  | .adr p => ∃ ns l, μ2 p = some (.obj C ns l) ∧ ns.length < 1000 ∧ E.nx δ (updM μ2 p (.obj C (putN f y ns l).1 (putN f y ns l).2))
  | _ => False
section
variable {O : Org} {X : Cx} {C : Addr} {f : Str} {e o value : Expr} {te ta tv : DTE} {pos pos' : Pos}
theorem de_fld (c : Cls X.K C) (n : NoAttr X.K C f) (he : DE O X e te) (hb : attributeBase e f X.env (eval e X.env) = eval e X.env := by rfl) : DE O X (.Attribute e f pos) (dFld C f te) :=
  pe_weak (pe_fld he hb) fun σ H Q ⟨F, δ, μ, q, hd, rs, t, k⟩ => ⟨F, δ, μ, _, hd, rs, t, fun F1 H1 μ1 x v e1 hd1 r1 t1 => by
    cases x <;> first | exact False.elim t1 | skip
    · rename_i p
      obtain rfl : v = .ref p := r1
      obtain ⟨ns, l, d, hm, hl, t1⟩ := t1
      obtain ⟨_, dx, vs, h1, h2, h3⟩ := hd1.own p _ hm
      obtain ⟨u, h4, h5⟩ := zip_rep h3 hl
      exact ⟨p, C, dx, _, u, rfl, h1, c, n, h4, k F1 H1 μ1 d u e1 hd1 h5 t1⟩
    · rename_i C' ns l
      obtain ⟨rfl, d, hl, t1⟩ := t1
      obtain ⟨a, dx, vs, rfl, ⟨_, h1⟩, h2, h3⟩ := r1
      obtain ⟨u, h4, h5⟩ := zip_rep h3 hl
      exact ⟨a, _, dx, _, u, rfl, h1, c, n, h4, k F1 H1 μ1 d u e1 hd1 h5 t1⟩⟩
theorem ds_fld (c : Cls X.K C) (n : NoAttr X.K C f) (ha : DE O X o ta) (hv : DE O X value tv) (hs : swapsWith value (some (.Attribute o f pos')) pos.line X.env = pure false := by rfl) : DSt O X (.Assign [.Attribute o f pos'] value pos) (dsFld C f ta tv) :=
  ps_weak (ps_fld ha hv hs) fun Z σ H ⟨F, δ, μ, E, hd, rs, t, L⟩ => ⟨F, δ, μ, _, hd, rs, t, fun F1 H1 μ1 y u e1 hd1 r1 t1 => ⟨F1, δ, μ1, _, hd1, rs.ext e1, t1, fun F2 H2 μ2 x v e2 hd2 r2 t2 => by
    cases x <;> first | exact False.elim t2 | skip
    rename_i p
    obtain rfl : v = .ref p := r2
    obtain ⟨ns, l, hm, hl, t2⟩ := t2
    obtain ⟨_, dx, vs, h1, h2, h3⟩ := hd2.own p _ hm
    have ex := ext_set (o := HO.ins C dx (putF f u (ns.zip vs))) hd2 hm
    obtain ⟨vs', p1, p2, p3⟩ := putN_rep (f := f) ((r1.ext e2).ext ex) h2 (h3.ext ex)
    refine ⟨p, C, dx, _, rfl, h1, c, n, by rw [List.length_zip]; omega, ?_⟩
    exact L.nx F2 _ _ δ σ ((e1.trans e2).trans ex) (hd2.set (m' := .obj C (putN f y ns l).1 (putN f y ns l).2) hm ⟨dx, vs', by rw [upd_same, p1], p2, p3⟩) (((rs.ext e1).ext e2).ext ex) t2⟩⟩
end
end DL

namespace DL
open PySem L2
/-! C(..): an object is made -/
theorem make_guards {A : Around} {C : Addr} {us : List Value} {kw : List (Str × Value)} (h : A.guards = some []) : (A.under (.builtin "type.__call__" ⟨.ref C :: us, kw⟩)).guards = some [] := by
  have e : (Code.builtin "type.__call__" ⟨.ref C :: us, kw⟩).isGuard = false := by
    show guardIds.contains "type.__call__" = false
    decide +kernel
  simp [Around.under, Code.guards, e, pushGuards, h]
theorem Hd.lay {K : PySem.W.Frag} {O : Org} {F : Zo} {H : Hp} {μ : Mu} {p : Addr} {o : HO} (h : Hd K O F H μ) (hp : H p = none) : Hd K O F (upd H p o) μ := by
  refine ⟨h.org.trans (ext_new h hp), fun a f => ?_, fun a m e => ?_⟩
  · have z : a ≠ p := fun z => h.nf hp (z ▸ f)
    rw [upd_ne z]; exact h.fr a f
  · have z : a ≠ p := fun z => by rw [z, h.free hp] at e; cases e
    exact ⟨(h.own a m e).1, (h.own a m e).2.ext (ext_new h hp) (upd_ne z)⟩
def dMake (C : Addr) (c : DSp) (e : DX) (dds : List D) (t : DTA) : DTE := fun δ μ q => t δ μ fun ds μ1 => ∀ p, μ1 p = none → c (.adr p :: (ds ++ dds)) (updM μ1 p (.obj C [] [])) (fun d μ2 => d = .non ∧ q (.adr p) μ2) e
section
variable {O : Org} {X : Cx} {k : Nat} {f C : Addr} {fd : FuncData} {ps : List Str} {sp : Sp} {dvs : List V} {ds : List Value} {E : XK} {x : Str} {p pos : Pos} {a : Expr} {es : List Expr} {t : DTA} {c : DSp} {e : DX} {dds : List D}
theorem run_makeG {pins : List (Addr × Obj)} {σ : L2.St} {H : Hp} {s : Shared} {Q : VK} {us : List Value} {vs : List V} (M : Mk X.K C f) (F : FnG X.prog X.w X.K X.mg X.base k f fd ps sp) (hr : Room (k + 1) X.A) (hgd : X.A.guards = some []) (hb : Binds X.K fd ps ds) (hd : Vals dvs ds)
    (hx : Passes (L2N.CX X.prog X.w) X E) (I : Inv X pins σ H s) (r : Vals vs us)
    (h : ∀ x dx, H x = none → H dx = none → dx ≠ x → sp (.ref x :: (vs ++ dvs)) (upd (upd H dx (.own x)) x (.ins C dx [])) (fun v H2 => v = .non ∧ Q (.ref x) H2) E) :
    wpAny (model X.prog X.w) X.A (call (.ref C) us) (EP X pins σ Q) X.xe s := by
  have hq := h (s.heap.objs.size + 1) s.heap.objs.size (I.hok.fresh (Nat.le_succ _)) (I.hok.fresh (Nat.le_refl _)) (Nat.ne_of_lt (Nat.lt_succ_self _))
  have I2 := Inv.made (C := C) I
  have r2 : Vals (V.ref (s.heap.objs.size + 1) :: (vs ++ dvs)) (Value.ref (s.heap.objs.size + 1) :: (us ++ ds)) := .cons rfl (r.append hd)
  have hl : (Value.ref (s.heap.objs.size + 1) :: us ++ ds).length = ps.length := r2.length.symm.trans (F.len _ _ _ _ hq)
  refine wpAny_call (make_map (f := f) I.kIn M.makes M.init (beq_iff_eq.mp M.fn) (codeAny_mono (F.run _ X.stack _ _ ⟨Value.ref (s.heap.objs.size + 1) :: us, []⟩ _ _ _ E (hr.make C us []) (make_guards hgd)
    (I2.env0.make C us []) (hb _ (Value.ref (s.heap.objs.size + 1) :: us) I2.kIn hl) r2 hq) ?_))
  intro res s2 end2
  match res, end2 with
  | .error e, end2 => exact hx pins σ _ _ e s2 I2 end2
  | .ok (.ret u), end2 =>
    obtain ⟨v, H', I3, rv, ev, q3⟩ := I2.after end2
    subst ev
    exact ⟨rv, ⟨V.ref (s.heap.objs.size + 1), H', I3, rfl, q3⟩⟩
theorem pe_makeG {t : TA} (M : Mk X.K C f) (F : FnG X.prog X.w X.K X.mg X.base k f fd ps sp) (hr : Room (k + 1) X.A) (hgd : X.A.guards = some []) (hg : Gl X x) (hm : X.mg x = some (.ref C)) (hb : Binds X.K fd ps ds) (hd : Vals dvs ds) (hx : Passes (L2N.CX X.prog X.w) X E)
    (ha : PA X (a :: es) t) (hdb : (x == ("__debug__" : Str)) = false) (he : starEach (a :: es) X.env = (false, eval a X.env) :: starEach es X.env) (hpl : (backTo pos (starEach es X.env)).any (·.1) = false) :
    PE X (.Call (.Name x p) (a :: es) [] pos) (tMake C sp dvs E t) := by
  constructor
  intro pins s σ H Q I h
  refine wpAny_Call_Name_kw (ld_glob I hg hm ?_ hdb)
  refine PySem.W.callWith_K (h₀ := X.base) I.ok.mod.kin M.kp (thn (ha.run pos pins s σ H _ I h) ?_) he hpl
  rintro us s1 ⟨vs, H1, I1, r, q⟩
  exact ⟨I1.kIn, run_makeG M F hr hgd hb hd hx I1 r q⟩
theorem lmake {K : PySem.W.Frag} (hdd : ∀ F H, RepL K F H dds dvs) : ∀ σ H Q, LE K O (dMake C c e dds t) σ H Q → tMake C (LSp K c) dvs (LX K O e) (LA K O t) σ H Q := fun σ H Q ⟨F, δ, μ, q, hd, rs, t, k⟩ =>
  ⟨F, δ, μ, _, hd, rs, t, fun F1 H1 μ1 ds vs e1 hd1 r1 t1 x dx hx hdx hne => by
    have hx' : upd H1 dx (.own x) x = none := by rw [upd_ne (Ne.symm hne)]; exact hx
    have h2 := hd1.lay (o := .own x) hdx
    have x2 := ext_new (o := HO.own x) hd1 hdx
    have h3 := h2.newM (o := .ins C dx []) (m := .obj C [] []) hx' ⟨dx, [], upd_same, rfl, RepL.nil⟩
    have x3 := ext_new (o := HO.ins C dx []) h2 hx'
    refine ⟨F1, _, .adr x :: (ds ++ dds), _, e, h3.here, .cons rfl (((r1.ext x2).ext x3).append (hdd F1 _)), t1 x (hd1.free hx), fun F4 H4 μ4 d v hd4 r4 q4 => ?_, fun cls dd H' ⟨C, b, v, d, F', μ', h1, h2', h3', h4, h5, h6⟩ => ⟨C, b, v, d, F', μ', h1, h2', h3', (h3.back h4).1, h5, h6⟩⟩
    obtain ⟨rfl, q4⟩ := q4
    obtain rfl : v = .non := r4
    obtain ⟨p1, p2⟩ := h3.back hd4
    exact ⟨rfl, k F4 H4 μ4 (.adr x) (.ref x) (((e1.trans x2).trans x3).trans p2) p1 rfl q4⟩⟩
theorem de_make (M : Mk X.K C f) (F : FnG X.prog X.w X.K X.mg X.base k f fd ps (LSp X.K c)) (hr : Room (k + 1) X.A) (hgd : X.A.guards = some []) (hg : Gl X x) (hm : X.mg x = some (.ref C)) (hb : Binds X.K fd ps ds) (hd : Vals dvs ds) (hdd : ∀ F H, RepL X.K F H dds dvs) (hx : Passes (L2N.CX X.prog X.w) X (LX X.K O e))
    (ha : DA O X (a :: es) t) (hdb : (x == ("__debug__" : Str)) = false := by decide) (he : starEach (a :: es) X.env = (false, eval a X.env) :: starEach es X.env := by rfl) (hpl : (backTo pos (starEach es X.env)).any (·.1) = false := by rfl) :
    DE O X (.Call (.Name x p) (a :: es) [] pos) (dMake C c e dds t) := pe_weak (pe_makeG M F hr hgd hg hm hb hd hx ha hdb he hpl) (lmake hdd)
end
end DL

namespace DL
open PySem L2
/-! properties and methods -/
/-- an object of C, whatever it holds -/
def isObj (C : Addr) (μ : Mu) : D → Prop
  | .ins C' _ _ => C' = C
  | .adr p => ∃ ns l, μ p = some (.obj C ns l)
  | _ => False
/-- .. that has no field m -/
def noFld (C : Addr) (m : Str) (μ : Mu) : D → Prop
  | .ins C' ns _ => C' = C ∧ m ∉ ns
  | .adr p => ∃ ns l, μ p = some (.obj C ns l) ∧ m ∉ ns
  | _ => False
theorem zip_none {m : Str} : ∀ {ns : List Str} {vs : List V}, m ∉ ns → (ns.zip vs).lookup m = none
  | [], _, _ => by simp
  | _ :: _, [], _ => by simp
  | n :: ns, v :: vs, h => by
    rw [List.zip_cons_cons, List.lookup_cons]
    have : (m == n) = false := beq_eq_false_iff_ne.mpr fun z => h (z ▸ List.mem_cons_self)
    rw [this]
    exact zip_none fun z => h (List.mem_cons_of_mem _ z)
def dProp (C : Addr) (c : DSp) (te : DTE) : DTE := fun δ μ q => te δ μ fun x μ1 => isObj C μ1 x ∧ c [x] μ1 q eN
def dMeth (C : Addr) (m : Str) (c : DSp) (e : DX) (te : DTE) (t : DTA) : DTE := fun δ μ q => te δ μ fun x μ1 => noFld C m μ1 x ∧ t δ μ1 fun ds μ2 => c (x :: ds) μ2 q e
section
variable {O : Org} {X : Cx} {k : Nat} {f C pr g : Addr} {fd : FuncData} {ps : List Str} {sp : Sp} {E : XK} {x m fl : Str} {p pos apos : Pos} {a o : Expr} {es : List Expr} {te : DTE} {t : DTA} {c : DSp} {e : DX} {K : PySem.W.Frag}
theorem obj_at {F : Zo} {H : Hp} {μ : Mu} {d : D} {v : V} (hd : Hd K O F H μ) (r : Rep K F H d v) (h : isObj C μ d) : ∃ a dx fs, v = .ref a ∧ H a = some (.ins C dx fs) := by
  cases d <;> first | exact False.elim h | skip
  · obtain ⟨ns, l, hm⟩ := h
    obtain ⟨_, dx, vs, h1, _⟩ := hd.own _ _ hm
    exact ⟨_, dx, _, r, h1⟩
  · obtain rfl := h
    obtain ⟨a, dx, vs, rfl, ⟨_, h1⟩, _⟩ := r
    exact ⟨a, dx, _, rfl, h1⟩
theorem obj_no {F : Zo} {H : Hp} {μ : Mu} {d : D} {v : V} (hd : Hd K O F H μ) (r : Rep K F H d v) (h : noFld C m μ d) : ∃ a dx fs, v = .ref a ∧ H a = some (.ins C dx fs) ∧ fs.lookup m = none := by
  cases d <;> first | exact False.elim h | skip
  · obtain ⟨ns, l, hm, hn⟩ := h
    obtain ⟨_, dx, vs, h1, _⟩ := hd.own _ _ hm
    exact ⟨_, dx, _, r, h1, zip_none hn⟩
  · obtain ⟨rfl, hn⟩ := h
    obtain ⟨a, dx, vs, rfl, ⟨_, h1⟩, _⟩ := r
    exact ⟨a, dx, _, rfl, h1, zip_none hn⟩
theorem getprop_okG {a dx : Addr} {fs : List (Str × V)} {pins : List (Addr × Obj)} {σ : L2.St} {H : Hp} {s : Shared} {Q : VK} {b : Bool} {E' : Value → Shared → Prop} (I : Inv X pins σ H s) (ea : H a = some (.ins C dx fs)) (cc : Cls X.K C) (hp : PropOf X.K C fl pr g)
    (F : FnG X.prog X.w X.K X.mg X.base k g fd ps sp) (hr : Room (k + 1) X.A) (hgd : X.A.guards = some []) (hb : Binds X.K fd ps []) (hx : Passes (L2N.CX X.prog X.w) X.nox E) (h : sp [.ref a] H Q E) :
    wpAny (model X.prog X.w) X.A (getAttr (.ref a) fl b) (EP X pins σ Q) E' s := by
  obtain ⟨mA, Ob, _, _, _, _⟩ := ins_get I.hok ea
  obtain ⟨od, J, _⟩ := Ob.look
  obtain ⟨rest, hrec⟩ := hp.rec_
  have I1 := I.tok (s.toks + 1)
  have hl : ([Value.ref a] ++ []).length = ps.length := F.len _ _ _ _ h
  have hc : (PySem.W.clsIn X.K C).isSome = true := by
    obtain ⟨cd, hc, _⟩ := PySem.W.any_some cc.hd
    rw [hc]
    rfl
  refine PySem.W.get_bind I.kIn J (PySem.W.plainGet_of (cc.get fl)).1 (PySem.W.findObj_data hc hp.at_ hp.get hp.tak) (PySem.W.plainGet_of (cc.get fl)).2 (wpAny_call (PySem.W.prop_get (s := { s with toks := s.toks + 1 }) I.kIn hrec ?_))
  refine codeAny_mono (F.run X.A.in1 X.stack { s with toks := s.toks + 1 } H ⟨[.ref a], []⟩ [.ref a] [.ref a] Q E hr.in1 hgd I1.env0.in1 (hb _ [.ref a] I1.kIn hl) (.cons rfl .nil) h) ?_
  intro res s2 end2
  match res, end2 with
  | .error er, end2 => exact False.elim (hx pins σ H { s with toks := s.toks + 1 } er s2 (I1.wish _) end2)
  | .ok (.ret u), end2 =>
    obtain ⟨v, H', I3, rv, q3⟩ := I1.after end2
    show wpAny _ _ (handedOut u) _ _ _
    rw [PySem.W.handedOut_of (handed_of rv)]
    exact wpAny_pure ⟨v, H', I3, rv, q3⟩
theorem pe_propG {ta : TE} (he : PE X a ta) (cc : Cls X.K C) (hp : PropOf X.K C fl pr g) (F : FnG X.prog X.w X.K X.mg X.base k g fd ps sp) (hr : Room (k + 1) X.A) (hgd : X.A.guards = some []) (hb : Binds X.K fd ps []) (hx : Passes (L2N.CX X.prog X.w) X.nox E)
    (hab : attributeBase a fl X.env (eval a X.env) = eval a X.env) : PE X (.Attribute a fl pos) (tProp C sp [] E ta) := by
  refine ⟨fun pins s σ H Q I h => ?_⟩
  refine attr_of hab (thn (he.run pins s σ H _ I h) ?_)
  rintro u s1 ⟨x, H1, I1, rx, a, dx, fs, ex, ea, q⟩
  subst ex
  obtain rfl : u = Value.ref a := rx
  exact getprop_okG I1 ea cc hp F hr hgd hb hx q
theorem de_prop (cc : Cls X.K C) (hp : PropOf X.K C fl pr g) (F : FnG X.prog X.w X.K X.mg X.base k g fd ps (LSp X.K c)) (hr : Room (k + 1) X.A) (hgd : X.A.guards = some []) (hb : Binds X.K fd ps []) (he : DE O X a te)
    (hab : attributeBase a fl X.env (eval a X.env) = eval a X.env := by rfl) : DE O X (.Attribute a fl pos) (dProp C c te) :=
  pe_weak (pe_propG (E := LX X.K O eN) he cc hp F hr hgd hb (fun pins σ H s e s' I h => (passesN (X := X.nox) (O := O) pins σ H s e s' I h)) hab) fun σ H Q ⟨F, δ, μ, q, hd, rs, t, k⟩ => ⟨F, δ, μ, _, hd, rs, t, fun F1 H1 μ1 x v e1 hd1 r1 ⟨ho, t1⟩ => by
    obtain ⟨a, dx, fs, rfl, h1⟩ := obj_at hd1 r1 ho
    refine ⟨a, dx, fs, rfl, h1, F1, μ1, [x], q, eN, hd1.here, .cons r1 RepL.nil, t1, fun F2 H2 μ2 d v hd2 r2 q2 => ?_, fun cls dd H' ⟨C, b, v, d, F', μ', h1, h2, h3, h4, h5, h6⟩ => h6.elim⟩
    obtain ⟨p1, p2⟩ := hd1.back hd2
    exact k F2 H2 μ2 d v (e1.trans p2) p1 r2 q2⟩
theorem pe_methG {pl : Sem Bool} {ta : TE} {t : TA} (he : PE X o ta) (cc : Cls X.K C) (hm : Meth X.K C m f) (F : FnG X.prog X.w X.K X.mg X.base k f fd ps sp) (hr : Room k X.A) (hgd : X.A.guards = some []) (hb : Binds X.K fd ps []) (hx : Passes (L2N.CX X.prog X.w) X E) (ha : PA X (a :: es) t)
    (hst : starEach (a :: es) X.env = (false, eval a X.env) :: starEach es X.env) (hpl : (backTo pos (starEach es X.env)).any (·.1) = false)
    (ht : eval (.Call (.Attribute o m apos) (a :: es) [] pos) X.env = (do
      let ov ← eval o X.env
      standAt apos.atName
      let (f, first) ← holding [ov] (getMethod ov m pl)
      callWith pos f first (backTo pos (starEach (a :: es) X.env)) (backToKw pos (keywordEach [] X.env)))) :
    PE X (.Call (.Attribute o m apos) (a :: es) [] pos) (tMeth C m sp [] E ta t) := by
  constructor
  intro pins s σ H Q I h
  refine PySem.W.methodCall_KW (pl := pl) (thn (he.run pins s σ H _ I h) ?_) ht
  rintro u s1 ⟨x, H1, I1, rx, a0, dx, fs, ex, ea, l, q⟩
  subst ex
  obtain rfl : u = Value.ref a0 := rx
  refine getmeth_ok I1 ea cc hm l ?_
  refine PySem.W.callWith_K (first := [.ref a0]) (h₀ := X.base) I.ok.mod.kin hm.kp (thn (ha.run pos pins s1 σ H1 _ I1 q) ?_) hst hpl
  rintro us s2 ⟨vs, H2, I2, r, q2⟩
  exact ⟨I2.kIn, run_fnG (us := .ref a0 :: us) (vs := .ref a0 :: vs) (dvs := []) (ds := []) F hr hgd hb .nil hx I2 (.cons rfl r) q2⟩
theorem de_meth {pl : Sem Bool} (cc : Cls X.K C) (hm : Meth X.K C m f) (F : FnG X.prog X.w X.K X.mg X.base k f fd ps (LSp X.K c)) (hr : Room k X.A) (hgd : X.A.guards = some []) (hb : Binds X.K fd ps []) (hx : Passes (L2N.CX X.prog X.w) X (LX X.K O e)) (he : DE O X o te) (ha : DA O X (a :: es) t)
    (hst : starEach (a :: es) X.env = (false, eval a X.env) :: starEach es X.env := by rfl) (hpl : (backTo pos (starEach es X.env)).any (·.1) = false := by rfl)
    (ht : eval (.Call (.Attribute o m apos) (a :: es) [] pos) X.env = (do
      let ov ← eval o X.env
      standAt apos.atName
      let (f, first) ← holding [ov] (getMethod ov m pl)
      callWith pos f first (backTo pos (starEach (a :: es) X.env)) (backToKw pos (keywordEach [] X.env))) := by rfl) :
    DE O X (.Call (.Attribute o m apos) (a :: es) [] pos) (dMeth C m c e te t) :=
  pe_weak (pe_methG he cc hm F hr hgd hb hx ha hst hpl ht) fun σ H Q ⟨F, δ, μ, q, hd, rs, t, k⟩ => ⟨F, δ, μ, _, hd, rs, t, fun F1 H1 μ1 x v e1 hd1 r1 ⟨ho, t1⟩ => by
    obtain ⟨a0, dx, fs, rfl, h1, hn⟩ := obj_no hd1 r1 ho
    refine ⟨a0, dx, fs, rfl, h1, hn, F1, δ, μ1, _, hd1, rs.ext e1, t1, fun F2 H2 μ2 ds vs e2 hd2 r2 t2 => ?_⟩
    show LSp X.K c (V.ref a0 :: (vs ++ [])) H2 Q (LX X.K O e)
    rw [List.append_nil]
    refine ⟨F2, μ2, x :: ds, q, e, hd2.here, .cons (r1.ext e2) r2, t2, fun F3 H3 μ3 d v hd3 r3 q3 => ?_, fun cls dd H' ⟨C, b, v, d, F', μ', h1, h2, h3, h4, h5, h6⟩ => ⟨C, b, v, d, F', μ', h1, h2, h3, (hd2.back h4).1, h5, h6⟩⟩
    obtain ⟨p1, p2⟩ := hd2.back hd3
    exact k F3 H3 μ3 d v ((e1.trans e2).trans p2) p1 r3 q3⟩
end
end DL

namespace DL
open PySem L2
/-! C(..), read alone afterwards: frozen at once -/
def dMakeZ (C : Addr) (c : DSp) (e : DX) (dds : List D) (t : DTA) : DTE := fun δ μ q => t δ μ fun ds μ1 => ∀ p, μ1 p = none → c (.adr p :: (ds ++ dds)) (updM μ1 p (.obj C [] [])) (fun d μ2 => d = .non ∧ ∃ ns l, μ2 p = some (.obj C ns l) ∧ q (.ins C ns l) (delM μ2 p)) e
section
variable {O : Org} {X : Cx} {k : Nat} {f C : Addr} {fd : FuncData} {ps : List Str} {sp : Sp} {dvs : List V} {ds : List Value} {E : XK} {x : Str} {p pos : Pos} {a : Expr} {es : List Expr} {t : DTA} {c : DSp} {e : DX} {dds : List D}
theorem lmakeZ {K : PySem.W.Frag} (hdd : ∀ F H, RepL K F H dds dvs) : ∀ σ H Q, LE K O (dMakeZ C c e dds t) σ H Q → tMake C (LSp K c) dvs (LX K O e) (LA K O t) σ H Q := fun σ H Q ⟨F, δ, μ, q, hd, rs, t, k⟩ =>
  ⟨F, δ, μ, _, hd, rs, t, fun F1 H1 μ1 ds vs e1 hd1 r1 t1 x dx hx hdx hne => by
    have hx' : upd H1 dx (.own x) x = none := by rw [upd_ne (Ne.symm hne)]; exact hx
    have h2 := hd1.lay (o := .own x) hdx
    have x2 := ext_new (o := HO.own x) hd1 hdx
    have h3 := h2.newM (o := .ins C dx []) (m := .obj C [] []) hx' ⟨dx, [], upd_same, rfl, RepL.nil⟩
    have x3 := ext_new (o := HO.ins C dx []) h2 hx'
    refine ⟨F1, _, .adr x :: (ds ++ dds), _, e, h3.here, .cons rfl (((r1.ext x2).ext x3).append (hdd F1 _)), t1 x (hd1.free hx), fun F4 H4 μ4 d v hd4 r4 q4 => ?_, fun cls dd H' ⟨C, b, v, d, F', μ', h1, h2', h3', h4, h5, h6⟩ => ⟨C, b, v, d, F', μ', h1, h2', h3', (h3.back h4).1, h5, h6⟩⟩
    obtain ⟨rfl, ns, l, hm, q4⟩ := q4
    obtain rfl : v = .non := r4
    obtain ⟨p1, p2⟩ := h3.back hd4
    obtain ⟨_, dx', vs', w1, w2, w3⟩ := p1.own x _ hm
    obtain ⟨z1, z2⟩ := p1.frz hm
    exact ⟨rfl, k _ H4 _ (.ins C ns l) (.ref x) ((((e1.trans x2).trans x3).trans p2).trans z2) z1 ⟨x, dx', vs', rfl, ⟨.inr rfl, w1⟩, w2, w3.ext z2⟩ q4⟩⟩
theorem de_makeZ (M : Mk X.K C f) (F : FnG X.prog X.w X.K X.mg X.base k f fd ps (LSp X.K c)) (hr : Room (k + 1) X.A) (hgd : X.A.guards = some []) (hg : Gl X x) (hm : X.mg x = some (.ref C)) (hb : Binds X.K fd ps ds) (hd : Vals dvs ds) (hdd : ∀ F H, RepL X.K F H dds dvs) (hx : Passes (L2N.CX X.prog X.w) X (LX X.K O e))
    (ha : DA O X (a :: es) t) (hdb : (x == ("__debug__" : Str)) = false := by decide) (he : starEach (a :: es) X.env = (false, eval a X.env) :: starEach es X.env := by rfl) (hpl : (backTo pos (starEach es X.env)).any (·.1) = false := by rfl) :
    DE O X (.Call (.Name x p) (a :: es) [] pos) (dMakeZ C c e dds t) := pe_weak (pe_makeG M F hr hgd hg hm hb hd hx ha hdb he hpl) (lmakeZ hdd)
end
end DL

set_option Elab.async false
set_option linter.all false
set_option maxRecDepth 100000
/-! DT: dicts of the top, by written keys -/
namespace DL
open PySem L2
structure KdTab (K : PySem.W.Frag) (w : World) (mg : Str → Option Value) (x : Str) (d : Addr) (tab : List (Str × D)) (miss : List Str) : Prop where
  nm : mg x = some (.ref d)
  kd : ∃ es n, KDict K w d es n
  hit : ∀ z e, tab.lookup z = some e → ∃ u v, PySem.W.nsIn K d z = some (some u) ∧ RelV v u ∧ ∀ F H, Rep K F H e v
  no : ∀ z, z ∈ miss → PySem.W.nsIn K d z = some none
def rKdIn (neg : Bool) (d : Addr) (tab : List (Str × D)) (miss : List Str) : DR2 := fun x y μ q => match x, y with
  | .str z, .adr d' => d' = d ∧ ((∃ e, tab.lookup z = some e ∧ q (.bl (!neg)) μ) ∨ (z ∈ miss ∧ q (.bl neg) μ))
  | _, _ => False
def rKdIx (d : Addr) (tab : List (Str × D)) : DR2 := fun x y μ q => match x, y with
  | .adr d', .str z => d' = d ∧ ∃ e, tab.lookup z = some e ∧ q e μ
  | _, _ => False
section
variable {O : Org} {X : Cx} {x : Str} {d : Addr} {tab : List (Str × D)} {miss : List Str} {pos : Pos} {a b : Expr} {ta tb : DTE}
theorem de_glob (T : KdTab X.K X.w X.mg x d tab miss) (hg : Gl X x) (hd : (x == ("__debug__" : Str)) = false := by decide) : DE O X (.Name x pos) (dC (.adr d)) :=
  de_of_c (pe_glob (v := .ref d) hg T.nm rfl hd) fun _ _ => rfl
theorem od_kdIn (T : KdTab X.K X.w X.mg x d tab miss) : OpD X.K (fun x y H Q => ∃ (z : Str) (r : Option Value), x = .str z ∧ y = .ref d ∧ PySem.W.nsIn X.K d z = some r ∧ Q (.bl r.isSome) H) (rKdIn false d tab miss) := by
  intro O F H μ x y v w q Q hd rx ry t k
  match x, y, t, rx, ry with
  | .str z, .adr d', ⟨e0, t1⟩, rx, ry =>
  obtain rfl : v = .str z := rx
  obtain rfl : w = .ref d' := ry
  subst e0
  rcases t1 with ⟨e, h1, t2⟩ | ⟨h1, t2⟩
  · obtain ⟨u, v, h2, _, _⟩ := T.hit z e h1
    exact ⟨z, some u, rfl, rfl, h2, k F H μ (.bl true) _ (Ext.refl F H) hd rep_bl t2⟩
  · exact ⟨z, none, rfl, rfl, T.no z h1, k F H μ (.bl false) _ (Ext.refl F H) hd rep_bl t2⟩
theorem od_kdNotIn (T : KdTab X.K X.w X.mg x d tab miss) : OpD X.K (fun x y H Q => ∃ (z : Str) (r : Option Value), x = .str z ∧ y = .ref d ∧ PySem.W.nsIn X.K d z = some r ∧ Q (.bl (!r.isSome)) H) (rKdIn true d tab miss) := by
  intro O F H μ x y v w q Q hd rx ry t k
  match x, y, t, rx, ry with
  | .str z, .adr d', ⟨e0, t1⟩, rx, ry =>
  obtain rfl : v = .str z := rx
  obtain rfl : w = .ref d' := ry
  subst e0
  rcases t1 with ⟨e, h1, t2⟩ | ⟨h1, t2⟩
  · obtain ⟨u, v, h2, _, _⟩ := T.hit z e h1
    exact ⟨z, some u, rfl, rfl, h2, k F H μ (.bl false) _ (Ext.refl F H) hd rep_bl t2⟩
  · exact ⟨z, none, rfl, rfl, T.no z h1, k F H μ (.bl true) _ (Ext.refl F H) hd rep_bl t2⟩
theorem ix_kd {es : Array DictEntry} {n : Nat} (D : KDict X.K X.w d es n) : IxR X (fun x y H Q => ∃ (z : Str) (u0 : Value) (v0 : V), x = .ref d ∧ y = .str z ∧ PySem.W.nsIn X.K d z = some (some u0) ∧ RelV v0 u0 ∧ Q v0 H) := by
  intro value slice pins s σ H x y v u Q I rx ry h hs
  have ht := kd_type D I
  have h2 := h
  obtain ⟨z, u0, v0, rfl, rfl, _⟩ := h2
  obtain rfl : v = Value.ref d := rx
  exact PyProof.Rows.tail_any ht PySem.slot_dict_getitem.lookup (op_item_kd D pins s σ H (.ref d) (.str z) (.ref d) u Q I rfl ry h) hs
theorem od_kdIx (T : KdTab X.K X.w X.mg x d tab miss) : OpD X.K (fun x y H Q => ∃ (z : Str) (u0 : Value) (v0 : V), x = .ref d ∧ y = .str z ∧ PySem.W.nsIn X.K d z = some (some u0) ∧ RelV v0 u0 ∧ Q v0 H) (rKdIx d tab) := by
  intro O F H μ x y v w q Q hd rx ry t k
  match x, y, t, rx, ry with
  | .adr d', .str z, ⟨e0, e, h1, t2⟩, rx, ry =>
  obtain rfl : w = .str z := ry
  obtain rfl : v = .ref d' := rx
  subst e0
  obtain ⟨u, v, h2, h3, h4⟩ := T.hit z e h1
  exact ⟨z, u, v, rfl, rfl, h2, h3, k F H μ e v (Ext.refl F H) hd (h4 F H) t2⟩
/-- X[word] -/
theorem de_kdIx (T : KdTab X.K X.w X.mg x d tab miss) (ha : DE O X a ta) (hb : DE O X b tb) (hs : PlainIx b := by exact fun _ _ => rfl) : DE O X (.Subscript a b pos) (dOp (rKdIx d tab) ta tb) := by
  obtain ⟨es, n, D⟩ := T.kd
  exact pe_weak (pe_ix (ix_kd D) ha hb hs) (lop (od_kdIx T))
end
end DL

set_option Elab.async false
set_option linter.all false
set_option maxRecDepth 100000
/-! DB: all, any; enumerate, zip -/
namespace DL
open PySem L2
section
variable {K : PySem.W.Frag} {F : Zo} {H : Hp} {O : Org} {μ : Mu}
theorem RepL.bools : ∀ {bs : List Bool} {vs : List V}, RepL K F H (bs.map D.bl) vs → vs = bs.map V.bl
  | [], _, h => h
  | b :: bs, _, ⟨v, r, e, h1, h2⟩ => by
    subst e
    obtain rfl : v = .bl b := h1
    rw [RepL.bools h2]; rfl
def rAllD : DC2 := fun ds μ q => match ds with | [d] => ∃ bs : List Bool, lstOf μ d = some (bs.map D.bl) ∧ q (.bl (bs.all id)) μ | _ => False
def rAnyD : DC2 := fun ds μ q => match ds with | [d] => ∃ bs : List Bool, lstOf μ d = some (bs.map D.bl) ∧ q (.bl (bs.any id)) μ | _ => False
theorem cd_all : CallD K (rAll K) rAllD := by
  intro O F H μ ds vs q Q hd rs t k
  unfold rAllD at t
  split at t
  · rename_i d
    obtain ⟨v, rfl, h1⟩ := repL1 rs
    obtain ⟨ns, e, t⟩ := t
    obtain ⟨a, us, rfl, h2, h3⟩ := list_sq hd h1 e
    obtain rfl := h3.bools
    exact ⟨a, ns, rfl, h2, k F H μ _ _ (Ext.refl F H) hd rep_bl t⟩
  · exact t.elim
theorem cd_any : CallD K (rAny K) rAnyD := by
  intro O F H μ ds vs q Q hd rs t k
  unfold rAnyD at t
  split at t
  · rename_i d
    obtain ⟨v, rfl, h1⟩ := repL1 rs
    obtain ⟨ns, e, t⟩ := t
    obtain ⟨a, us, rfl, h2, h3⟩ := list_sq hd h1 e
    obtain rfl := h3.bools
    exact ⟨a, ns, rfl, h2, k F H μ _ _ (Ext.refl F H) hd rep_bl t⟩
  · exact t.elim
/-- number and item -/
def enumD : Nat → List D → List D
  | _, [] => []
  | i, x :: l => .tup [.int (i : Nat), x] :: enumD (i + 1) l
theorem enumD_len : ∀ (k : Nat) (l : List D), (enumD k l).length = l.length
  | _, [] => rfl
  | k, x :: l => by rw [enumD, List.length_cons, List.length_cons, enumD_len]
theorem enumD_get : ∀ {k i : Nat} {l : List D} {x : D}, l[i]? = some x → (enumD k l)[i]? = some (.tup [.int ((k + i : Nat) : Int), x])
  | _, _, [], _, h => by simp at h
  | k, 0, y :: l, x, h => by
    simp at h; subst h
    rfl
  | k, i + 1, y :: l, x, h => by
    rw [enumD, List.getElem?_cons_succ, enumD_get (k := k + 1) (i := i) (by simpa using h), show k + 1 + i = k + (i + 1) by omega]
theorem itok_enum {items : List D} {a : Addr} {vs : List V} (hr : RepL K F H items vs)
    (st : ∀ F2 H2 μ2, Ext F H F2 H2 → Hd K O F2 H2 μ2 → SqL K H2 a vs) : ItOk K O F H (enumD 0 items) (fun _ => True) (Ite K a) := by
  have hlen := hr.length
  refine ⟨fun i F2 H2 μ2 e hd _ h => ?_, fun i F2 H2 μ2 x H3 e hd _ h hy => ?_, fun i F2 H2 μ2 e hd _ h => ?_⟩
  · rw [enumD_len] at h
    have hl : i < vs.length := by omega
    exact ⟨vs, vs[i], st F2 H2 μ2 e hd, by simp [hl]⟩
  · rw [enumD_len] at h
    obtain ⟨T, y, rfl, hT, rfl, hx⟩ := hy
    obtain ⟨d, e1, e2⟩ := (hr.ext e).get' (hx vs (st F2 H2 μ2 e hd))
    refine ⟨_, .tup [.int (i : Nat), d], ext_newF hd hT, hd.newF hT, ?_, ⟨T, _, rfl, .inl ⟨.inr rfl, .inl upd_same⟩, .cons rfl (.cons (e2.ext (ext_newF hd hT)) RepL.nil)⟩⟩
    have := enumD_get (k := 0) e1
    rwa [Nat.zero_add] at this
  · rw [enumD_len] at h
    exact ⟨vs, st F2 H2 μ2 e hd, by omega⟩
end
/-- enumerate of a list that stands -/
def diEnum (te : DTA) : DTI := fun δ μ q => te δ μ fun ds μ1 => match ds with
  | [.lst l] => q (enumD 0 l) (fun _ => True) μ1
  | [.rol l] => q (enumD 0 l) (fun _ => True) μ1
  | _ => False
section
variable {O : Org} {X : Cx} {e : Expr} {t : DTA} {pos p tpos : Pos} {elts : List Expr} {kk : Nat}
theorem di_enum (hg : Gl X "enumerate") (hm : X.mg "enumerate" = none) (ha : DA O X [e] t) (hs : starEach [e] X.env = [(false, eval e X.env)] := by rfl) :
    DI O X (.Tuple elts kk tpos) (.Call (.Name "enumerate" p) [e] [] pos) (diEnum t) :=
  pi_weak (pi_enum hg hm ha hs) fun σ H R ⟨F, δ, μ, q, hd, rs, t, k⟩ => ⟨F, δ, μ, _, hd, rs, t, fun F1 H1 μ1 ds vs e1 hd1 r1 t1 => by
    match ds, t1, r1 with
    | [.lst l], t1, r1 =>
      obtain ⟨v, rfl, h1⟩ := repL1 r1
      obtain ⟨a, us, rfl, h2, h3⟩ := h1
      exact ⟨a, us, rfl, SqL.of h2.2, k F1 H1 μ1 _ _ _ e1 hd1 (itok_enum h3 fun F2 H2 μ2 e2 hd2 => SqL.of ((e2.hf h2.1).trans h2.2)) t1⟩
    | [.rol l], t1, r1 =>
      obtain ⟨v, rfl, h1⟩ := repL1 r1
      obtain ⟨a, us, rfl, h2, h3⟩ := h1
      exact ⟨a, us, rfl, h2.sq, k F1 H1 μ1 _ _ _ e1 hd1 (itok_enum h3 fun F2 H2 μ2 e2 hd2 => (h2.ext e2).sq) t1⟩⟩
end
end DL

set_option Elab.async false
set_option linter.all false
set_option maxRecDepth 100000
/-! DS: whole numbers of the module by name; len(set(whole numbers)); list * n -/
namespace DL
open PySem L2 PySem.Spec PyProof.Rows
theorem de_gint {O : Org} {X : Cx} {x : Str} {i : Int} {pos : Pos} (hg : Gl X x) (hm : ∃ t, X.mg x = some (.int i t)) (hd : (x == ("__debug__" : Str)) = false := by decide) : DE O X (.Name x pos) (dC (.int i)) := by
  obtain ⟨t, hm⟩ := hm
  exact de_of_c (pe_glob (v := .int i) hg hm ⟨t, rfl⟩ hd) fun _ _ => rfl
/-! ### len(set(xs)) -/
theorem firstMet_nd (val : Nat → Int) : ∀ i, (firstMet val i).Nodup
  | 0 => by rw [firstMet_zero]; exact List.nodup_nil
  | i + 1 => by
    rw [firstMet_succ]
    have ih := firstMet_nd val i
    unfold step_dedup
    split
    · exact ih
    · rename_i h
      rw [List.nodup_append]
      refine ⟨ih, by simp, fun a ha b hb => ?_⟩
      obtain rfl : b = val i := by simpa using hb
      intro e
      subst e
      exact h (List.any_eq_true.mpr ⟨_, ha, beq_self_eq_true _⟩)
theorem firstMet_mem (val : Nat → Int) (i : Nat) (k : Int) : k ∈ firstMet val i ↔ ∃ j, j < i ∧ val j = k := by
  have h := firstMet_any val i k
  rw [Bool.eq_iff_iff] at h
  simp only [List.any_eq_true, beq_iff_eq, exists_eq_right, List.mem_map, List.mem_range] at h
  exact h
theorem getD_mem {ns : List Int} {k : Int} : (∃ j, j < ns.length ∧ ns.getD j 0 = k) ↔ k ∈ ns := by
  constructor
  · rintro ⟨j, hj, rfl⟩
    rw [List.getD_eq_getElem?_getD, List.getElem?_eq_getElem hj]
    exact List.getElem_mem hj
  · intro h
    obtain ⟨j, hj, e⟩ := List.getElem_of_mem h
    exact ⟨j, hj, by rw [List.getD_eq_getElem?_getD, List.getElem?_eq_getElem hj]; exact e⟩
def tLenSetD (K : PySem.W.Frag) (ta : TE) : TE := fun σ H Q => ta σ H fun x H1 => ∃ (l : Addr) (ns : List Int), x = .ref l ∧ SqL K H1 l (ns.map V.int) ∧ ns.length ≤ 4000 ∧ ∀ out : List Int, out.Nodup → (∀ k, k ∈ out ↔ k ∈ ns) → out.length ≤ ns.length → Q (.int (out.length : Nat)) H1
theorem pe_lenSetD {X : Cx} {a : Expr} {ta : TE} {p p2 q pos : Pos} (hg : Gl X "len") (hm : X.mg "len" = none) (hg2 : Gl X "set") (hm2 : X.mg "set" = none) (ha : PE X a ta) (hc : X.calm = true)
    (na : starEach [a] X.env = (false, eval a X.env) :: starEach [] X.env) : PE X (.Call (.Name "len" p) [.Call (.Name "set" p2) [a] [] q] [] pos) (tLenSetD X.K ta) := by
  refine ⟨fun pins s σ H Q I h => ?_⟩
  refine Call_ (ld_blt I hg hm boot_len ?_)
  refine PyProof.Rows.callWith_builtin1 (PyProof.Rows.args_cons ?_ rfl) rfl rfl
  refine Call_ (ld_blt I hg2 hm2 boot_set ?_)
  refine PyProof.Rows.callWith_type1 (PyProof.Rows.args_cons (thn (ha.run pins s σ H _ I h) fun v s1 ⟨x, H1, I1, r1, q1⟩ => PyProof.Rows.args_nil ?_) na) na rfl
  obtain ⟨l, ns, rfl, hq, hl, q1⟩ := q1
  cases r1
  obtain ⟨its, r, pl, hz⟩ := I1.list hq
  have hlen : its.toArray.size = ns.length := by rw [List.size_toArray, ← r.length, List.length_map]
  refine call_set_list (I1.ok.hd hc) pl.isList (by simpa using RZ.intsAre_vals r) (by rw [hlen]; unfold scanBound; omega) fun h' tk hS hk => ?_
  refine PyProof.Rows.args_nil ?_
  rw [hlen] at hS
  have hle := firstMet_length_le (fun i => ns.getD i 0) ns.length
  obtain ⟨o, es, ep, t, ho, hex, hd, _, _, _, hf, hn⟩ := hS
  have I2 : Inv X pins σ H1 { s1 with heap := h', toks := tk } := I1.kept fun b o e => hk b o (Heap.lt_size e) e
  exact call_len_set ho hex hd hf (by rw [hn] <;> omega) ⟨.int ((firstMet (fun i => ns.getD i 0) ns.length).length : Nat), H1, I2.tok _, ⟨_, by rw [hn]⟩, q1 _ (firstMet_nd _ _) (fun k => (firstMet_mem _ _ k).trans getD_mem) hle⟩
def dLenSet (ta : DTE) : DTE := fun δ μ q => ta δ μ fun x μ1 => ∃ ns : List Int, lstOf μ1 x = some (ns.map D.int) ∧ ns.length ≤ 4000 ∧ ∀ out : List Int, out.Nodup → (∀ k, k ∈ out ↔ k ∈ ns) → out.length ≤ ns.length → q (.int (out.length : Nat)) μ1
theorem de_lenSet {O : Org} {X : Cx} {a : Expr} {ta : DTE} {p p2 p3 pos : Pos} (hg : Gl X "len") (hm : X.mg "len" = none) (hg2 : Gl X "set") (hm2 : X.mg "set" = none) (ha : DE O X a ta) (hc : X.calm = true := by rfl)
    (na : starEach [a] X.env = (false, eval a X.env) :: starEach [] X.env := by rfl) : DE O X (.Call (.Name "len" p) [.Call (.Name "set" p2) [a] [] p3] [] pos) (dLenSet ta) :=
  pe_weak (pe_lenSetD hg hm hg2 hm2 ha hc na) fun σ H Q ⟨F, δ, μ, q, hd, rs, t, k⟩ => ⟨F, δ, μ, _, hd, rs, t, fun F1 H1 μ1 x v e1 hd1 r1 ⟨ns, h1, h2, t1⟩ => by
    obtain ⟨a, vs, rfl, h3, h4⟩ := list_sq hd1 r1 h1
    obtain rfl := h4.ints
    exact ⟨a, ns, rfl, h3, h2, fun out o1 o2 o3 => k F1 H1 μ1 _ _ e1 hd1 rep_int (t1 out o1 o2 o3)⟩⟩
/-! ### xs * n -/
def rRepD : DR2 := fun x y μ q => match y with
  | .int k => ∃ l, catOf μ x = some l ∧ (-(2 ^ 63) ≤ k ∧ k < 2 ^ 63) ∧ l.length * k.toNat ≤ sizeLine ∧ q (.lst (List.replicate k.toNat l).flatten) μ
  | _ => False
theorem RepL.flat {K : PySem.W.Frag} {F : Zo} {H : Hp} {l : List D} {vs : List V} (r : RepL K F H l vs) : ∀ n : Nat, RepL K F H (List.replicate n l).flatten (List.replicate n vs).flatten
  | 0 => RepL.nil
  | n + 1 => by
    rw [List.replicate_succ, List.replicate_succ, List.flatten_cons, List.flatten_cons]
    exact r.append (RepL.flat r n)
theorem od_rep {K : PySem.W.Frag} : OpD K rRep rRepD := by
  intro O F H μ x y v w q Q hd rx ry t k
  cases y <;> first | exact False.elim t | skip
  rename_i n
  obtain rfl : w = .int n := ry
  obtain ⟨l, e1, t2, t3, t4⟩ := t
  obtain ⟨a, vs, rfl, h1, h2⟩ := list_cat hd rx e1
  have e2 := h2.length
  exact ⟨a, n, vs, rfl, rfl, h1, t2.1, t2.2, by rw [← e2]; exact t3, fun p hp => k _ _ μ (.lst _) (.ref p) (ext_newF hd hp) (hd.newF hp) ⟨p, _, rfl, ⟨.inr rfl, upd_same⟩, (h2.flat n.toNat).ext (ext_newF hd hp)⟩ t4⟩
theorem de_rep {O : Org} {X : Cx} {a b : Expr} {ta tb : DTE} {pos : Pos} (ha : DE O X a ta) (hb : DE O X b tb) : DE O X (.BinOp a .Mult b pos) (dOp rRepD ta tb) := de_op op_rep od_rep ha hb
end DL

set_option Elab.async false
set_option linter.all false
set_option maxRecDepth 100000
/-! DS2: for over a range with ends of any size -/
namespace DL
open PySem L2 PySem.Spec PyProof.Rows
theorem turn_long {P : Program} {w : World} {K : PySem.W.Frag} {tg : Expr} (it : Addr) (lo : Int) (n : Nat) : Turn P w K tg (Itr lo n) [it] it (fun i h => IsLongIter h it (lo + (i : Nat) * 1) ((n : Int) - (i : Nat)) 1) where
  mem := by simp
  obj := fun i h st b hb => by
    have e : b = it := by simpa using hb
    subst e
    exact ⟨_, st, fun v z => by
      have z' : Data.fields _ = Data.cell v := z
      cases z'⟩
  keep := fun i h h' st k => k it (by simp) _ st
  item := by
    intro X hP hw hK hc i pins s σ H E I hf st hg
    subst hP hw hK
    obtain ⟨f0, f1, f2, f3, f4, f5⟩ := hf it (by simp)
    have W := Walks.longrange (prog := X.prog) (w := X.w) (I.ok.hd hc) it lo 1 n
    refine W.item i s _ _ hg st fun v h' tk hv st' kk => ?_
    obtain ⟨t, rfl⟩ := hv
    have I1 : Inv X pins σ H { s with heap := h', toks := tk } := I.turned (fun b o hb e => kk b o (by simpa using hb) e) f0 f1 f3 f4 f5
    refine ⟨_, rfl, go_of (s := { s with heap := h', toks := tk }) (n := "longrange_iterator") st' rfl rfl (by decide) ⟨.int (lo + i), H, I1, ⟨t, ?_⟩, ⟨rfl, rfl⟩, st', fun b hb => (hf b hb).1⟩⟩
    rw [Int.mul_one]
  done := by
    intro X hP hw hK hc i pins s σ H E I hf st hg
    subst hP hw hK
    obtain ⟨f0, f1, f2, f3, f4, f5⟩ := hf it (by simp)
    exact wpAny_pyNext_long_end (I.ok.hd hc) st (by have : n ≤ i := hg; omega) fun h' eb => ⟨rfl, I.turned (t' := s.toks) (fun b o hb e => eb b o hb e) f0 f1 f3 f4 f5⟩
  self := fun _ _ _ _ _ st h => wpAny_pyIter_longiter st h
theorem range_itW {X : Cx} {tg : Expr} {pins : List (Addr × Obj)} {σ : L2.St} {H : Hp} {s : Shared} {R : It → Hp → Prop} {E : Value → Shared → Prop} {lo hi : Int} {t u v : Tok} {tk : Nat} (I : Inv X pins σ H s)
    (q : R (Itr lo (hi - lo).toNat) H) : wpAny (model X.prog X.w) X.A (pyIter (.ref s.heap.objs.size)) (PIE X pins σ tg R) E { s with heap := s.heap.push { cls := .type "range", data := .fields #[.int lo t, .int hi u, .int 1 v] }, toks := tk } := by
  have I1 : Inv X pins σ H { s with heap := s.heap.push { cls := .type "range", data := .fields #[.int lo t, .int hi u, .int 1 v] }, toks := tk } := I.kept fun b o e => Heap.get?_push_of_some _ e
  have e1 : lo + ((0 : Nat) : Int) * 1 = lo := by simp
  have e2 : (((hi - lo).toNat : Nat) : Int) - ((0 : Nat) : Int) = Builtin.Range.rangeSize lo hi 1 := by rw [rangeSize_one]; split <;> omega
  have fp : ∀ b ∈ [(s.heap.push { cls := .type "range", data := .fields #[.int lo t, .int hi u, .int 1 v] }).objs.size], FpOk X pins H b := fun b hb => by
    have e : b = (s.heap.push { cls := .type "range", data := .fields #[.int lo t, .int hi u, .int 1 v] }).objs.size := by simpa using hb
    subst e
    exact I1.fpOk (Nat.le_refl _) (I1.hok.fresh (Nat.le_refl _))
  by_cases hs : Builtin.Range.small lo hi 1 = true
  · refine wpAny_pyIter_range (IsRange.new ..) hs ?_
    refine ⟨_, _, _, _, H, rfl, I1.kept (t' := tk) fun b o e => Heap.get?_push_of_some _ e, turn_range _ lo (hi - lo).toNat, ?_, fp, q⟩
    show IsRangeIter _ _ (lo + ((0 : Nat) : Int) * 1) ((((hi - lo).toNat : Nat) : Int) - ((0 : Nat) : Int)) 1
    rw [e1, e2]
    exact Heap.get?_push_size _ rfl
  · refine wpAny_pyIter_longrange (IsRange.new ..) (by simpa using hs) ?_
    refine ⟨_, _, _, _, H, rfl, I1.kept (t' := tk) fun b o e => Heap.get?_push_of_some _ e, turn_long _ lo (hi - lo).toNat, ?_, fp, q⟩
    show IsLongIter _ _ (lo + ((0 : Nat) : Int) * 1) ((((hi - lo).toNat : Nat) : Int) - ((0 : Nat) : Int)) 1
    rw [e1, e2]
    exact Heap.get?_push_size _ rfl
def iRw1 (ta : TA) : TI := fun σ H R => ta σ H fun vs H1 => ∃ j : Int, vs = [.int j] ∧ R (Itr 0 j.toNat) H1
def iRw2 (ta : TA) : TI := fun σ H R => ta σ H fun vs H1 => ∃ i j : Int, vs = [.int i, .int j] ∧ R (Itr i (j - i).toNat) H1
section
variable {O : Org} {X : Cx} {tg a b : Expr} {ta : TA} {t : DTA} {p pos : Pos}
theorem pi_rw1 (hg : Gl X "range") (hm : X.mg "range" = none) (ha : PA X [a] ta) (hs : starEach [a] X.env = [(false, eval a X.env)] := by rfl) : PI X tg (.Call (.Name "range" p) [a] [] pos) (iRw1 ta) := by
  refine ⟨fun pins s σ H R I h => ?_⟩
  refine Call_ (ld_blt I hg hm boot_range (PyProof.Rows.callWith_type1 (thn (ha.run pos pins s σ H _ I h) fun us s1 ⟨vs, H1, I1, r1, q1⟩ => ?_) hs rfl))
  obtain ⟨j, e, q⟩ := q1
  subst e
  cases r1 with
  | cons r rr =>
    cases rr
    obtain ⟨t, rfl⟩ := r
    exact call_range_1 (range_itW I1 (by simpa using q))
theorem pi_rw2 (hg : Gl X "range") (hm : X.mg "range" = none) (ha : PA X [a, b] ta) (hs : starEach [a, b] X.env = [(false, eval a X.env), (false, eval b X.env)] := by rfl) (hs2 : starEach [b] X.env = [(false, eval b X.env)] := by rfl) :
    PI X tg (.Call (.Name "range" p) [a, b] [] pos) (iRw2 ta) := by
  refine ⟨fun pins s σ H R I h => ?_⟩
  refine Call_ (ld_blt I hg hm boot_range (PyProof.Rows.callWith_type1 (thn (ha.run pos pins s σ H _ I h) fun us s1 ⟨vs, H1, I1, r1, q1⟩ => ?_) (by rw [hs, hs2]) (by rw [hs2]; rfl)))
  obtain ⟨i, j, e, q⟩ := q1
  subst e
  cases r1 with
  | cons r rr =>
    cases rr with
    | cons r' rr =>
      cases rr
      obtain ⟨t, rfl⟩ := r
      obtain ⟨t', rfl⟩ := r'
      exact call_range_2 (range_itW I1 q)
def diRw1 (ta : DTA) : DTI := fun δ μ q => ta δ μ fun ds μ1 => match ds with | [.int j] => q (intsD 0 j.toNat) (fun _ => True) μ1 | _ => False
def diRw2 (ta : DTA) : DTI := fun δ μ q => ta δ μ fun ds μ1 => match ds with | [.int i, .int j] => q (intsD i (j - i).toNat) (fun _ => True) μ1 | _ => False
theorem di_rw1 (hg : Gl X "range") (hm : X.mg "range" = none) (ha : DA O X [a] t) (hs : starEach [a] X.env = [(false, eval a X.env)] := by rfl) : DI O X tg (.Call (.Name "range" p) [a] [] pos) (diRw1 t) :=
  pi_weak (pi_rw1 hg hm ha hs) fun σ H R ⟨F, δ, μ, q, hd, rs, t, k⟩ => ⟨F, δ, μ, _, hd, rs, t, fun F1 H1 μ1 ds vs e1 hd1 r1 t1 => by
    match ds, t1 with
    | [.int j], t1 =>
      obtain ⟨v, r', rfl, h1, h2⟩ := r1
      obtain rfl : v = .int j := h1
      obtain rfl : r' = [] := h2
      exact ⟨j, rfl, k F1 H1 μ1 _ _ _ e1 hd1 (itok_range 0 j.toNat) t1⟩⟩
theorem di_rw2 (hg : Gl X "range") (hm : X.mg "range" = none) (ha : DA O X [a, b] t) (hs : starEach [a, b] X.env = [(false, eval a X.env), (false, eval b X.env)] := by rfl) (hs2 : starEach [b] X.env = [(false, eval b X.env)] := by rfl) :
    DI O X tg (.Call (.Name "range" p) [a, b] [] pos) (diRw2 t) :=
  pi_weak (pi_rw2 hg hm ha hs hs2) fun σ H R ⟨F, δ, μ, q, hd, rs, t, k⟩ => ⟨F, δ, μ, _, hd, rs, t, fun F1 H1 μ1 ds vs e1 hd1 r1 t1 => by
    match ds, t1 with
    | [.int i, .int j], t1 =>
      obtain ⟨v, w, rfl, h1, h2⟩ := repL2 r1
      obtain rfl : v = .int i := h1
      obtain rfl : w = .int j := h2
      exact ⟨i, j, rfl, k F1 H1 μ1 _ _ _ e1 hd1 (itok_range i (j - i).toNat) t1⟩⟩
end
end DL

set_option Elab.async false
set_option linter.all false
set_option maxRecDepth 100000
/-! DC: defs with defaults; classes: made, their properties and methods; len of an object -/
namespace DL
open PySem L2 PySem.Spec PyProof.Rows
/-! ### defs with defaults -/
section
variable {P : Program} {w : World} {K : PySem.W.Frag} {mg : Str → Option Value} {base : Heap}
theorem fnG_ofD {x qual : Str} {st : Stmt} {f : Addr} {fd : FuncData} {N ps : List Str} {k : Nat} {sp : Sp} {dvs : List V} {kws : List (Str × V)} (F : FunD K x qual (defArgs st) (defBody st) (defScope st) dvs kws f fd) (S : FnScope N ps (defScope st)) (len : ∀ vs H Q E, sp vs H Q E → vs.length = ps.length)
    (body : ∀ (cdv : Value) (A : Around) (outer : List Env) (s : Shared) (H : Hp) (vs : List V) (Q : VK) (E : XK), Room k (A.deeper (envOfC qual (defScope st) s.heap.objs.size f cdv)) → A.guards = some [] → sp vs H Q E →
      ∃ t, PSs (cxOf (L2N.CX P w) P w K mg base N qual (defScope st) f cdv A outer s H E) (defBody st) t ∧ t { nx := fun _ H' => Q .non H', rt := Q } (start N vs) H) : FnG P w K mg base (k + 1) f fd ps sp := by
  obtain ⟨oc, od, dV, kV, doc, pm, an, cdv, ct, osl, rfl, lk, hcd, _, _⟩ := F.ex
  refine ⟨len, ?_⟩
  intro A outer s H args us vs Q E room gd e0 bnd rel hsp
  have inK : K.In s.heap := e0.mod.kin.keeps fun b o z => (e0.bs b o z).1
  have nolim : s.heap.NoLimit := e0.mod.nolimit.keeps fun b o z => (e0.bs b o z).1
  refine codeAny_call_function room.depth (inK _ _ lk) rfl S.co S.gen rfl (PySem.W.codeRec_of inK hcd) (bnd _ _ _ _ ?_)
  refine wpAny_newFunctionEnv_cells S.kind ?_ ?_
  · rintro ⟨n, v⟩ hy
    rcases S.par n (List.of_mem_zip hy).1 with q | q
    · exact .inl q
    · exact .inr ⟨q, PySem.W.cellsFrom_some _ _ _ (.inl q)⟩
  intro env he s1 inC
  subst he
  refine ⟨nolim.keeps inC.toInCall.keep, codeAny_func ?_⟩
  obtain ⟨t, der, q⟩ := body cdv A outer s H vs Q E (room.deeper _) gd hsp
  have I := inv_start (CX := L2N.CX P w) (E := E) S room.hd e0 (len _ _ _ _ hsp) rel inC
  refine wpAny_mono (der.run [] s1 (start N vs) H _ I q) ?_ fun _ _ z => z
  intro fl s2 sp2
  match fl, sp2 with
  | .ret u, ⟨v, σ2, H2, J, rv, q2⟩ => exact ⟨v, H2, J.os, J.bare, J.base, J.hok, rv, q2⟩
  | .next, ⟨σ2, H2, J, q2⟩ => exact ⟨V.non, H2, J.os, J.bare, J.base, J.hok, rfl, q2⟩
  | .brk, ⟨_, _, _, q2⟩ => exact q2.elim
  | .cont, ⟨_, _, _, q2⟩ => exact q2.elim
theorem fnD_ofD {x qual : Str} {st : Stmt} {f : Addr} {fd : FuncData} {N ps : List Str} {k n : Nat} {c : DSp} {t : DX → DTS} {dvs : List V} {kws : List (Str × V)} (F : FunD K x qual (defArgs st) (defBody st) (defScope st) dvs kws f fd) (S : FnScope N ps (defScope st)) (hn : N.length = n) (len : ∀ ds μ q e, c ds μ q e → ds.length = ps.length)
    (der : ∀ (cdv : Value) (A : Around) (outer : List Env) (s : Shared) (H : Hp) (E : XK) (O : Org) (e : DX), Ctx O (cxOf (L2N.CX P w) P w K mg base N qual (defScope st) f cdv A outer s H E) k e →
      L2N.Takes (cxOf (L2N.CX P w) P w K mg base N qual (defScope st) f cdv A outer s H E) (fun cls d _ H2 => LX K O e cls d H2) →
      PassesOwn (model P w) (A.deeper (envOfC qual (defScope st) s.heap.objs.size f cdv)) (envOfC qual (defScope st) s.heap.objs.size f cdv) (cxOf (L2N.CX P w) P w K mg base N qual (defScope st) f cdv A outer s H E).xe →
      DSs O (cxOf (L2N.CX P w) P w K mg base N qual (defScope st) f cdv A outer s H E) (defBody st) (t e))
    (ok : ∀ ds μ q e, c ds μ q e → t e (endsD q) (startD n ds) μ) : FnG P w K mg base (k + 1) f fd ps (LSp K c) := by
  subst hn
  refine fnG_ofD F S (fun vs H Q E ⟨F, μ, ds, q, e, hd, r, hc, _⟩ => by rw [← r.length]; exact len _ _ _ _ hc) ?_
  rintro cdv A outer s H vs Q E room gd ⟨F0, μ, ds, q, e, hd, r, hc, hq, hE⟩
  have tk : L2N.Takes (cxOf (L2N.CX P w) P w K mg base N qual (defScope st) f cdv A outer s H E) (fun cls d _ H2 => LX K ⟨F0, H⟩ e cls d H2) := by
    have z := L2N.takes_of (X := cxOf (L2N.CX P w) P w K mg base N qual (defScope st) f cdv A outer s H E) (E := E) rfl rfl rfl rfl
    exact z.imp fun cls d _ H' h => hE cls d H' h
  have ow : PassesOwn (model P w) (A.deeper (envOfC qual (defScope st) s.heap.objs.size f cdv)) (envOfC qual (defScope st) s.heap.objs.size f cdv) (cxOf (L2N.CX P w) P w K mg base N qual (defScope st) f cdv A outer s H E).xe :=
    passes_of (X := cxOf (L2N.CX P w) P w K mg base N qual (defScope st) f cdv A outer s H E) rfl
  refine ⟨_, der cdv A outer s H E ⟨F0, H⟩ e ⟨room, gd, L2N.passes_call tk fun _ _ _ _ h => h⟩ tk ow, F0, startD N.length ds, μ, _, hd, repS_start r, ok ds μ q e hc, ⟨?_, ?_, ?_, ?_⟩⟩
  · rintro F1 H1 μ1 δ1 σ1 e1 hd1 rs1 ⟨μ2, s2, q2⟩
    exact hq F1 H1 μ2 .non .non (hd1.sub s2) rfl q2
  · rintro F1 H1 μ1 d v e1 hd1 r1 ⟨μ2, s2, q2⟩
    exact hq F1 H1 μ2 d v (hd1.sub s2) r1 q2
  · intro _ _ _ _ _ _ _ _ z; exact z.elim
  · intro _ _ _ _ _ _ _ _ z; exact z.elim
/-- a def that stands with one default -/
theorem funD_mk {x qual : Str} {st : Stmt} {f T : Addr} {oc ocT : Value} {od an odT : Option Addr} {osl slT : Array (Option Value)} {kV doc pm cdv ct u : Value} {nT : Nat} {v : V} (l : K.lookup f = some ⟨oc, od, .func (PySem.W.fnOf x qual (defArgs st) (defBody st) (defScope st) (.ref T) kV doc pm an cdv ct), osl⟩)
    (c : PySem.W.codeIn K cdv qual = true) (k : PySem.W.keepIn K (.ref f) = true) (lT : K.lookup T = some ⟨ocT, odT, .seq #[u] nT, slT⟩) (r : RelV v u) :
    FunD K x qual (defArgs st) (defBody st) (defScope st) [v] [] f (PySem.W.fnOf x qual (defArgs st) (defBody st) (defScope st) (.ref T) kV doc pm an cdv ct) :=
  ⟨⟨oc, od, .ref T, kV, doc, pm, an, cdv, ct, osl, rfl, l, c, .inr ⟨by simp, T, _, [u], nT, rfl, lT, rfl, .cons r .nil⟩, .inl rfl⟩, k⟩
/-- the empty tuple that the text holds -/
theorem rep_tup0 {E : Addr} {odE : Option Addr} {slE : Array (Option Value)} {nE : Nat} (lE : K.lookup E = some ⟨.type "tuple", odE, .seq #[] nE, slE⟩) : ∀ F H, RepL K F H [.tup []] [.ref E] :=
  fun F H => .cons ⟨E, [], rfl, .inr fun H' => .inr ⟨_, #[], nE, lE, rfl, rfl, Nat.zero_le _, .nil⟩, RepL.nil⟩ RepL.nil
theorem rep_int1 (i : Int) : ∀ F H, RepL K F H [.int i] [.int i] := fun F H => .cons rfl RepL.nil
end
/-- how a call binds: n positional values, keywords named ks; the parameters behind the positional ones are taken by perm from the keywords' values and the defaults -/
structure KwX (K : PySem.W.Frag) (fd : FuncData) (ps ks : List Str) (n : Nat) (perm : List Nat) (its : List Value) : Prop where
  to : ∀ (s : Shared) (us ws : List Value), K.In s.heap → us.length = n → ws.length = ks.length → BindsTo s fd ⟨us, ks.zip ws⟩ (ps.zip (us ++ pick perm (ws ++ its)))
structure FdX (P : Program) (w : World) (K : PySem.W.Frag) (mg : Str → Option Value) (base : Heap) (x : Str) (k : Nat) (ps : List Str) (c : DSp) (ks : List Str) (n : Nat) (perm : List Nat) (dds : List D) : Prop where
  ex : ∃ (f : Addr) (fd : FuncData) (its : List Value) (dvs : List V), FnG P w K mg base k f fd ps (LSp K c) ∧ mg x = some (.ref f) ∧ PySem.W.keepIn K (.ref f) = true ∧ KwX K fd ps ks n perm its ∧ Vals dvs its ∧ ∀ F H, RepL K F H dds dvs
theorem kwx_of {K : PySem.W.Frag} {f : Addr} {fd : FuncData} {ps ks : List Str} {n : Nat} {perm : List Nat} {x q : Str} {st : Stmt} (F : Fun K x q st f fd)
    (h : ∀ (kV doc pm : Value) (an : Option Addr) (cdv ct : Value) (us ws : List Value), us.length = n → ws.length = ks.length → bindArgs (PySem.W.fnOf x q (defArgs st) (defBody st) (defScope st) .none kV doc pm an cdv ct) ⟨us, ks.zip ws⟩ = pure (ps.zip (us ++ pick perm (ws ++ [])))) : KwX K fd ps ks n perm [] := by
  obtain ⟨oc, od, kV, doc, pm, an, cdv, ct, osl, rfl, lk, hcd⟩ := F.ex
  exact ⟨fun s us ws _ h1 h2 => .of_eq (h kV doc pm an cdv ct us ws h1 h2)⟩
theorem kwx_ofD {K : PySem.W.Frag} {f : Addr} {fd : FuncData} {ps ks : List Str} {n : Nat} {perm : List Nat} {x q : Str} {st : Stmt} {dvs : List V} (F : FunD K x q (defArgs st) (defBody st) (defScope st) dvs [] f fd) (hd : dvs ≠ [])
    (h : ∀ (T : Addr) (kV doc pm : Value) (an : Option Addr) (cdv ct : Value) (us ws its : List Value), us.length = n → ws.length = ks.length → its.length = dvs.length → ∃ k, bindArgs (PySem.W.fnOf x q (defArgs st) (defBody st) (defScope st) (.ref T) kV doc pm an cdv ct) ⟨us, ks.zip ws⟩ = seqItems? (.ref T) >>= k ∧ k (some its.toArray) = pure (ps.zip (us ++ pick perm (ws ++ its)))) :
    ∃ its, Vals dvs its ∧ KwX K fd ps ks n perm its := by
  obtain ⟨oc, od, dV, kV, doc, pm, an, cdv, ct, osl, rfl, lk, hcd, hD, hK⟩ := F.ex
  rcases hD with ⟨e, _⟩ | ⟨_, T, o, its, m, rfl, lT, oT, rT⟩
  · exact absurd e hd
  · refine ⟨its, rT, ⟨fun s us ws X l1 l2 => ?_⟩⟩
    obtain ⟨k, e1, e2⟩ := h T kV doc pm an cdv ct us ws its l1 l2 rT.length.symm
    refine BindsTo.of_looks fun M => ?_
    rw [e1]
    exact looks_items X lT oT (.of_pure e2)
def dCallX (c : DSp) (e : DX) (n m : Nat) (perm : List Nat) (dds : List D) (ta tk : DTA) : DTE := fun δ μ q => ta δ μ fun ds μ1 => tk δ μ1 fun zs μ2 => ds.length = n ∧ zs.length = m ∧ c (ds ++ pick perm (zs ++ dds)) μ2 q e
section
variable {O : Org} {X : Cx} {k j n m : Nat} {f : Addr} {fd : FuncData} {ps ks : List Str} {c : DSp} {e : DX} {x : Str} {p pos kpos : Pos} {a : Expr} {es : List Expr} {t tk : DTA} {ta : DTE} {kws : List Keyword} {perm : List Nat} {nm : Option Str} {sp : Sp} {E : XK} {its : List Value} {dvs : List V} {dds : List D}
def tCallX (sp : Sp) (n m : Nat) (perm : List Nat) (dvs : List V) (E : XK) (t tk : TA) : TE := fun σ H Q => t σ H fun vs H1 => tk σ H1 fun zs H2 => vs.length = n ∧ zs.length = m ∧ sp (vs ++ pick perm (zs ++ dvs)) H2 Q E
theorem run_fnGX {pins : List (Addr × Obj)} {σ : L2.St} {H : Hp} {s : Shared} {Q : VK} {us ws : List Value} {vs zs : List V} (F : FnG X.prog X.w X.K X.mg X.base k f fd ps sp) (hr : Room k X.A) (hgd : X.A.guards = some []) (hb : KwX X.K fd ps ks n perm its) (hv : Vals dvs its) (hx : Passes (L2N.CX X.prog X.w) X E)
    (I : Inv X pins σ H s) (r : Vals vs us) (rz : Vals zs ws) (h1 : vs.length = n) (h2 : zs.length = ks.length) (h : sp (vs ++ pick perm (zs ++ dvs)) H Q E) : wpAny (model X.prog X.w) X.A (call (.ref f) us (ks.zip ws)) (EP X pins σ Q) X.xe s := by
  have rel := r.append (vals_pick (rz.append hv) perm)
  refine wpAny_call (codeAny_mono (F.run X.A X.stack s H ⟨us, ks.zip ws⟩ _ _ Q E hr hgd I.env0 (hb.to s us ws I.kIn (r.length.symm.trans h1) (rz.length.symm.trans h2)) rel h) ?_)
  intro res s2 end2
  match res, end2 with
  | .error e, end2 => exact hx pins σ H s e s2 I end2
  | .ok (.ret u), end2 => exact I.after end2
theorem pe_callGX {t tk : TA} (F : FnG X.prog X.w X.K X.mg X.base k f fd ps sp) (hr : Room k X.A) (hgd : X.A.guards = some []) (hg : Gl X x) (hm : X.mg x = some (.ref f)) (hk : PySem.W.keepIn X.K (.ref f) = true) (hb : KwX X.K fd ps ks n perm its) (hv : Vals dvs its) (hx : Passes (L2N.CX X.prog X.w) X E)
    (ha : PA X (a :: es) t) (hkw : PK X kws tk) (hall : (backToKw pos (keywordEach kws X.env)).all (·.1.isSome) = true) (hks : (backToKw pos (keywordEach kws X.env)).filterMap (·.1) = ks)
    (hdb : (x == ("__debug__" : Str)) = false) (he : starEach (a :: es) X.env = (false, eval a X.env) :: starEach es X.env)
    (hpl : ((backTo pos (starEach (a :: es) X.env)).any (·.1) || (backToKw pos (keywordEach kws X.env)).any (·.1.isNone)) = false) :
    PE X (.Call (.Name x p) (a :: es) kws pos) (tCallX sp n ks.length perm dvs E t tk) := by
  constructor
  intro pins s σ H Q I h
  refine wpAny_Call_Name_kw (ld_glob I hg hm ?_ hdb)
  refine PySem.W.callWith_KW (h₀ := X.base) I.ok.mod.kin hk hall (thn (ha.run pos pins s σ H _ I h) ?_) hpl he
  rintro us s1 ⟨vs, H1, I1, r, q⟩
  refine thn (hkw.run pos pins s1 σ H1 _ I1 q) ?_
  rintro ws s2 ⟨zs, H2, I2, rz, l1, l2, q2⟩
  refine ⟨I2.kIn, ?_⟩
  rw [hks]
  exact run_fnGX F hr hgd hb hv hx I2 r rz l1 l2 q2
theorem pe_callGX0 {tk : TA} (F : FnG X.prog X.w X.K X.mg X.base k f fd ps sp) (hr : Room k X.A) (hgd : X.A.guards = some []) (hg : Gl X x) (hm : X.mg x = some (.ref f)) (hk : PySem.W.keepIn X.K (.ref f) = true) (hb : KwX X.K fd ps ks 0 perm its) (hv : Vals dvs its) (hx : Passes (L2N.CX X.prog X.w) X E)
    (hkw : PK X kws tk) (hall : (backToKw pos (keywordEach kws X.env)).all (·.1.isSome) = true) (hks : (backToKw pos (keywordEach kws X.env)).filterMap (·.1) = ks)
    (hdb : (x == ("__debug__" : Str)) = false) (hpl : ((backTo pos (starEach [] X.env)).any (·.1) || (backToKw pos (keywordEach kws X.env)).any (·.1.isNone)) = false) :
    PE X (.Call (.Name x p) [] kws pos) (tCallX sp 0 ks.length perm dvs E tNil tk) := by
  constructor
  intro pins s σ H Q I h
  refine wpAny_Call_Name_kw (ld_glob I hg hm ?_ hdb)
  refine PySem.W.callWith_KW0 (h₀ := X.base) I.ok.mod.kin hk hall ?_ hpl
  refine thn (hkw.run pos pins s σ H _ I h) ?_
  rintro ws s2 ⟨zs, H2, I2, rz, l1, l2, q2⟩
  refine ⟨I2.kIn, ?_⟩
  rw [hks]
  exact run_fnGX F hr hgd hb hv hx I2 .nil rz l1 l2 q2
theorem lcallx {K : PySem.W.Frag} (hdd : ∀ F H, RepL K F H dds dvs) : ∀ σ H Q, LE K O (dCallX c e n m perm dds t tk) σ H Q → tCallX (LSp K c) n m perm dvs (LX K O e) (LA K O t) (LA K O tk) σ H Q := fun σ H Q ⟨F, δ, μ, q, hd, rs, t, k⟩ =>
  ⟨F, δ, μ, _, hd, rs, t, fun F1 H1 μ1 ds vs e1 hd1 r1 t1 => ⟨F1, δ, μ1, _, hd1, rs.ext e1, t1, fun F2 H2 μ2 zs us e2 hd2 r2 ⟨l1, l2, t2⟩ =>
    ⟨by rw [← r1.length]; exact l1, by rw [← r2.length]; exact l2, F2, μ2, ds ++ pick perm (zs ++ dds), q, e, hd2.here, (r1.ext e2).append (repL_pick (r2.append (hdd F2 H2)) perm), t2, fun F3 H3 μ3 d v hd3 r3 q3 => by
    obtain ⟨h1, h2⟩ := hd2.back hd3
    exact k F3 H3 μ3 d v ((e1.trans e2).trans h2) h1 r3 q3, fun cls dd H' ⟨C, b, v, d, F', μ', h1, h2, h3, h4, h5, h6⟩ => ⟨C, b, v, d, F', μ', h1, h2, h3, (hd2.back h4).1, h5, h6⟩⟩⟩⟩
theorem de_callFX (h : FdX X.prog X.w X.K X.mg X.base x j ps c ks n perm dds) (hr : Room j X.A) (hgd : X.A.guards = some []) (hx : Passes (L2N.CX X.prog X.w) X (LX X.K O e)) (hg : Gl X x) (ha : DA O X (a :: es) t) (hkw : DKw O X kws tk) (hdb : (x == ("__debug__" : Str)) = false := by decide)
    (hall : (backToKw pos (keywordEach kws X.env)).all (·.1.isSome) = true := by rfl) (hks : (backToKw pos (keywordEach kws X.env)).filterMap (·.1) = ks := by rfl)
    (he : starEach (a :: es) X.env = (false, eval a X.env) :: starEach es X.env := by rfl) (hpl : ((backTo pos (starEach (a :: es) X.env)).any (·.1) || (backToKw pos (keywordEach kws X.env)).any (·.1.isNone)) = false := by rfl) (hml : m = ks.length := by rfl) : DE O X (.Call (.Name x p) (a :: es) kws pos) (dCallX c e n m perm dds t tk) := by
  subst hml
  obtain ⟨f, fd, its, dvs, F, hm, hk, hb, hv, hdd⟩ := h.ex
  exact pe_weak (pe_callGX F hr hgd hg hm hk hb hv hx ha hkw hall hks hdb he hpl) (lcallx hdd)
theorem de_callFX0 (h : FdX X.prog X.w X.K X.mg X.base x j ps c ks 0 perm dds) (hr : Room j X.A) (hgd : X.A.guards = some []) (hx : Passes (L2N.CX X.prog X.w) X (LX X.K O e)) (hg : Gl X x) (hkw : DKw O X kws tk) (hdb : (x == ("__debug__" : Str)) = false := by decide)
    (hall : (backToKw pos (keywordEach kws X.env)).all (·.1.isSome) = true := by rfl) (hks : (backToKw pos (keywordEach kws X.env)).filterMap (·.1) = ks := by rfl)
    (hpl : ((backTo pos (starEach [] X.env)).any (·.1) || (backToKw pos (keywordEach kws X.env)).any (·.1.isNone)) = false := by rfl) (hml : m = ks.length := by rfl) : DE O X (.Call (.Name x p) [] kws pos) (dCallX c e 0 m perm dds dNil tk) := by
  subst hml
  obtain ⟨f, fd, its, dvs, F, hm, hk, hb, hv, hdd⟩ := h.ex
  refine pe_weak (pe_callGX0 F hr hgd hg hm hk hb hv hx hkw hall hks hdb hpl) fun σ H Q h => ?_
  have := lcallx hdd σ H Q h
  obtain ⟨F1, δ, μ, q, hd1, rs, t1, k1⟩ := this
  exact k1 F1 H μ [] [] (Ext.refl _ _) hd1 RepL.nil t1
end
/-- f(e, ..), the last parameters by their defaults -/
structure FdP (P : Program) (w : World) (K : PySem.W.Frag) (mg : Str → Option Value) (base : Heap) (x : Str) (k : Nat) (ps : List Str) (c : DSp) (dds : List D) : Prop where
  ex : ∃ (f : Addr) (fd : FuncData) (ds : List Value) (dvs : List V), FnG P w K mg base k f fd ps (LSp K c) ∧ mg x = some (.ref f) ∧ PySem.W.keepIn K (.ref f) = true ∧ Binds K fd ps ds ∧ Vals dvs ds ∧ ∀ F H, RepL K F H dds dvs
/-- C(e, ..) -/
structure Im (P : Program) (w : World) (K : PySem.W.Frag) (mg : Str → Option Value) (base : Heap) (x : Str) (C : Addr) (k : Nat) (ps : List Str) (c : DSp) (dds : List D) : Prop where
  ex : ∃ (f : Addr) (fd : FuncData) (ds : List Value) (dvs : List V), FnG P w K mg base k f fd ps (LSp K c) ∧ Mk K C f ∧ mg x = some (.ref C) ∧ Binds K fd ps ds ∧ Vals dvs ds ∧ ∀ F H, RepL K F H dds dvs
structure Pp (P : Program) (w : World) (K : PySem.W.Frag) (mg : Str → Option Value) (base : Heap) (C : Addr) (fl : Str) (k : Nat) (ps : List Str) (c : DSp) : Prop where
  ex : ∃ (pr g : Addr) (fd : FuncData), PropOf K C fl pr g ∧ FnG P w K mg base k g fd ps (LSp K c) ∧ Binds K fd ps []
structure Mm (P : Program) (w : World) (K : PySem.W.Frag) (mg : Str → Option Value) (base : Heap) (C : Addr) (m : Str) (k : Nat) (ps : List Str) (c : DSp) : Prop where
  ex : ∃ (f : Addr) (fd : FuncData), Meth K C m f ∧ FnG P w K mg base k f fd ps (LSp K c) ∧ Binds K fd ps []
section
variable {O : Org} {X : Cx} {k j : Nat} {C : Addr} {ps : List Str} {c : DSp} {e : DX} {x m fl : Str} {p pos apos : Pos} {a o : Expr} {es : List Expr} {t : DTA} {te : DTE} {dds : List D}
theorem de_callP (h : FdP X.prog X.w X.K X.mg X.base x j ps c dds) (hr : Room j X.A) (hgd : X.A.guards = some []) (hx : Passes (L2N.CX X.prog X.w) X (LX X.K O e)) (hg : Gl X x) (ha : DA O X (a :: es) t) (hdb : (x == ("__debug__" : Str)) = false := by decide)
    (he : starEach (a :: es) X.env = (false, eval a X.env) :: starEach es X.env := by rfl) (hpl : (backTo pos (starEach es X.env)).any (·.1) = false := by rfl) : DE O X (.Call (.Name x p) (a :: es) [] pos) (dCall c e dds t) := by
  obtain ⟨f, fd, ds, dvs, F, hm, hk, hb, hv, hdd⟩ := h.ex
  exact de_call F hr hgd hg hm hk hb hv hdd hx ha hdb he hpl
theorem de_makeI (h : Im X.prog X.w X.K X.mg X.base x C k ps c dds) (hr : Room (k + 1) X.A) (hgd : X.A.guards = some []) (hx : Passes (L2N.CX X.prog X.w) X (LX X.K O e)) (hg : Gl X x) (ha : DA O X (a :: es) t) (hdb : (x == ("__debug__" : Str)) = false := by decide)
    (he : starEach (a :: es) X.env = (false, eval a X.env) :: starEach es X.env := by rfl) (hpl : (backTo pos (starEach es X.env)).any (·.1) = false := by rfl) : DE O X (.Call (.Name x p) (a :: es) [] pos) (dMakeZ C c e dds t) := by
  obtain ⟨f, fd, ds, dvs, F, M, hm, hb, hv, hdd⟩ := h.ex
  exact de_makeZ M F hr hgd hg hm hb hv hdd hx ha hdb he hpl
theorem de_propP (cc : L2.Cls X.K C) (h : Pp X.prog X.w X.K X.mg X.base C fl k ps c) (hr : Room (k + 1) X.A) (hgd : X.A.guards = some []) (he : DE O X a te) (hab : attributeBase a fl X.env (eval a X.env) = eval a X.env := by rfl) : DE O X (.Attribute a fl pos) (dProp C c te) := by
  obtain ⟨pr, g, fd, hp, F, hb⟩ := h.ex
  exact de_prop cc hp F hr hgd hb he hab
theorem de_methM {pl : Sem Bool} (cc : L2.Cls X.K C) (h : Mm X.prog X.w X.K X.mg X.base C m k ps c) (hr : Room k X.A) (hgd : X.A.guards = some []) (hx : Passes (L2N.CX X.prog X.w) X (LX X.K O e)) (he : DE O X o te) (ha : DA O X (a :: es) t)
    (hst : starEach (a :: es) X.env = (false, eval a X.env) :: starEach es X.env := by rfl) (hpl : (backTo pos (starEach es X.env)).any (·.1) = false := by rfl)
    (ht : eval (.Call (.Attribute o m apos) (a :: es) [] pos) X.env = (do
      let ov ← eval o X.env
      standAt apos.atName
      let (f, first) ← holding [ov] (getMethod ov m pl)
      callWith pos f first (backTo pos (starEach (a :: es) X.env)) (backToKw pos (keywordEach [] X.env))) := by rfl) :
    DE O X (.Call (.Attribute o m apos) (a :: es) [] pos) (dMeth C m c e te t) := by
  obtain ⟨f, fd, hm, F, hb⟩ := h.ex
  exact de_meth cc hm F hr hgd hb hx he ha hst hpl ht
def dMeth0 (C : Addr) (m : Str) (c : DSp) (e : DX) (te : DTE) : DTE := fun δ μ q => te δ μ fun x μ1 => noFld C m μ1 x ∧ c [x] μ1 q e
theorem pe_methG0 {f : Addr} {fd : FuncData} {sp : Sp} {E : XK} {pl : Sem Bool} {ta : TE} (he : PE X o ta) (cc : L2.Cls X.K C) (hm : Meth X.K C m f) (F : FnG X.prog X.w X.K X.mg X.base k f fd ps sp) (hr : Room k X.A) (hgd : X.A.guards = some []) (hb : Binds X.K fd ps []) (hx : Passes (L2N.CX X.prog X.w) X E)
    (ht : eval (.Call (.Attribute o m apos) [] [] pos) X.env = (do
      let ov ← eval o X.env
      standAt apos.atName
      let (f, first) ← holding [ov] (getMethod ov m pl)
      callWith pos f first (backTo pos (starEach [] X.env)) (backToKw pos (keywordEach [] X.env)))) :
    PE X (.Call (.Attribute o m apos) [] [] pos) (tMeth C m sp [] E ta tNil) := by
  refine ⟨fun pins s σ H Q I h => ?_⟩
  refine PySem.W.methodCall_KW (pl := pl) (thn (he.run pins s σ H _ I h) fun u s1 ⟨x, H1, I1, rx, a, dx, fs, ex, ea, l, q⟩ => ?_) ht
  subst ex
  obtain rfl : u = Value.ref a := rx
  refine getmeth_ok I1 ea cc hm l ?_
  exact PySem.W.callWith_K0 (first := [.ref a]) I1.kIn hm.kp (run_fnG (us := [.ref a]) (vs := [.ref a]) (dvs := []) (ds := []) F hr hgd hb .nil hx I1 (.cons rfl .nil) q)
theorem de_methM0 {pl : Sem Bool} (cc : L2.Cls X.K C) (h : Mm X.prog X.w X.K X.mg X.base C m k ps c) (hr : Room k X.A) (hgd : X.A.guards = some []) (hx : Passes (L2N.CX X.prog X.w) X (LX X.K O e)) (he : DE O X o te)
    (ht : eval (.Call (.Attribute o m apos) [] [] pos) X.env = (do
      let ov ← eval o X.env
      standAt apos.atName
      let (f, first) ← holding [ov] (getMethod ov m pl)
      callWith pos f first (backTo pos (starEach [] X.env)) (backToKw pos (keywordEach [] X.env))) := by rfl) :
    DE O X (.Call (.Attribute o m apos) [] [] pos) (dMeth0 C m c e te) := by
  obtain ⟨f, fd, hm, F, hb⟩ := h.ex
  refine pe_weak (pe_methG0 he cc hm F hr hgd hb hx ht) fun σ H Q ⟨F0, δ, μ, q, hd, rs, t, k⟩ => ⟨F0, δ, μ, _, hd, rs, t, fun F1 H1 μ1 x v e1 hd1 r1 ⟨ho, t1⟩ => ?_⟩
  obtain ⟨a0, dx, fs, rfl, h1, hn⟩ := obj_no hd1 r1 ho
  refine ⟨a0, dx, fs, rfl, h1, hn, ?_⟩
  refine ⟨F1, μ1, [x], q, e, hd1.here, .cons r1 RepL.nil, t1, fun F3 H3 μ3 d v hd3 r3 q3 => ?_, fun cls dd H' ⟨C, b, v, d, F', μ', h1, h2, h3, h4, h5, h6⟩ => ⟨C, b, v, d, F', μ', h1, h2, h3, (hd1.back h4).1, h5, h6⟩⟩
  obtain ⟨p1, p2⟩ := hd1.back hd3
  exact k F3 H3 μ3 d v (e1.trans p2) p1 r3 q3
end
/-! ### len(o) by an own __len__ -/
section
variable {X : Cx} {k : Nat} {C : Addr} {ps : List Str} {c : DSp}
def rLenOwn (K : PySem.W.Frag) (C : Addr) (c : DSp) : List V → Hp → VK → Prop := fun xs H Q => ∃ a dx fs, xs = [.ref a] ∧ H a = some (.ins C dx fs) ∧ LSp K c [.ref a] H (fun v H' => ∃ n : Nat, v = .int n ∧ n ≤ sizeLine ∧ Q (.int n) H') fun _ _ _ => False
theorem call_lenOwn (h : Mm X.prog X.w X.K X.mg X.base C "__len__" k ps c) (hr : Room (k + 1) X.A) (hgd : X.A.guards = some []) : CallR X (.builtin "len") (rLenOwn X.K C c) := by
  intro pins s σ H xs us Q I r hq
  obtain ⟨f, fd, hm, F, hb⟩ := h.ex
  obtain ⟨a, dx, fs, rfl, ea, q⟩ := hq
  obtain ⟨u, rfl, rx⟩ := vals1 r
  obtain rfl : u = Value.ref a := rx
  have hz := sizeLine_eq
  refine Calls.call_function_entry kind_len plain_len entry_len (args_len1 _) ?_
  unfold Builtin.«len»
  refine wpAny_bind (m := oneArg "len" _) (wpAny_pure ?_)
  obtain ⟨mA, Ob, _⟩ := ins_get I.hok ea
  obtain ⟨od, J, _⟩ := Ob.look
  have hl : ([Value.ref a] ++ []).length = ps.length := F.len _ _ _ _ q
  refine wpAny_bind (m := callSpecial? (.ref a) (Str.ofString "__len__")) (PySem.W.special_fn I.kIn J hm.at_ (beq_iff_eq.mp hm.fn) (wpAny_call ?_))
  refine codeAny_mono (F.run X.A.in1 X.stack s H ⟨[.ref a], []⟩ [.ref a] [.ref a] _ _ hr.in1 hgd I.env0.in1 (hb _ [.ref a] I.kIn hl) (.cons rfl .nil) q) ?_
  intro res s2 end2
  match res, end2 with
  | .error er, end2 =>
    obtain ⟨a, B, H', cls, d, _, _, _, _, _, _, _, z⟩ := end2
    exact z.elim
  | .ok (.ret u), end2 =>
    obtain ⟨v, H', I3, rv, n, rfl, hn, q3⟩ := I.after end2
    obtain ⟨t, rfl⟩ := rv
    refine wpAny_bind (wpAny_holding (wpAny_pure ?_))
    refine wpAny_bind (wpAny_letGo ?_)
    show wpAny _ _ (if ((n : Nat) : Int) < 0 then _ else _) _ _ _
    rw [if_neg (by omega)]
    show wpAny _ _ (if ((n : Nat) : Int) ≥ 2 ^ 63 then _ else _) _ _ _
    rw [if_neg (by omega)]
    exact wpAny_bind (wpAny_mkInt (wpAny_pure ⟨_, rfl, .int n, H', I3.tok _, ⟨_, rfl⟩, q3⟩))
/-- len: of an object of C by its own, of all else as ever -/
def rLenX (C : Addr) (c : DSp) : DC2 := fun ds μ q => match ds with
  | [.ins C' ns l] => C' = C ∧ c [.ins C' ns l] μ (fun d μ' => ∃ n : Nat, d = .int n ∧ n ≤ sizeLine ∧ q d μ') eN
  | ds => rLenD ds μ q
theorem cd_lenX {K : PySem.W.Frag} : CallD K (fun xs H Q => rLenOwn K C c xs H Q ∨ (fun xs H Q => ∃ x n, xs = [x] ∧ LenV K x H n ∧ Q (.int n) H) xs H Q) (rLenX C c) := by
  intro O F H μ ds vs q Q hd rs t k
  unfold rLenX at t
  split at t
  · rename_i C' ns l
    obtain ⟨rfl, t⟩ := t
    obtain ⟨v, rfl, h1⟩ := repL1 rs
    have h1' := h1
    obtain ⟨a, dx, us, rfl, ⟨_, h2⟩, h3, h4⟩ := h1'
    refine .inl ⟨a, dx, _, rfl, h2, F, μ, [.ins C' ns l], _, eN, hd.here, .cons h1 RepL.nil, t, fun F2 H2 μ2 d v hd2 r2 ⟨n, e1, e2, q2⟩ => ?_, fun cls dd H' ⟨_, _, _, _, _, _, _, _, _, _, _, z⟩ => z.elim⟩
    subst e1
    obtain rfl : v = .int n := r2
    obtain ⟨p1, p2⟩ := hd.back hd2
    exact ⟨n, rfl, e2, k F2 H2 μ2 _ _ p2 p1 rep_int q2⟩
  · exact .inr (cd_len O F H μ _ vs q Q hd rs t k)
end
end DL

set_option Elab.async false
set_option linter.all false
set_option maxRecDepth 100000
/-! DC2: tables of the top; int(flag) -/
namespace DL
open PySem L2
section
variable {O : Org} {X : Cx} {x : Str} {d : Addr} {tab : List (Str × D)} {miss : List Str} {pos : Pos} {a b : Expr} {ta tb : DTE}
theorem de_kdIn (T : KdTab X.K X.w X.mg x d tab miss) (ha : DE O X a ta) (hb : DE O X b tb) (hm : behindInMarks .In b = false := by rfl) : DE O X (.Compare a [.In] [b] pos) (dOp (rKdIn false d tab miss) ta tb) := by
  obtain ⟨es, n, D⟩ := T.kd
  exact de_cmp (op_in_kd D) (od_kdIn T) ha hb hm
theorem de_kdNotIn (T : KdTab X.K X.w X.mg x d tab miss) (ha : DE O X a ta) (hb : DE O X b tb) (hm : behindInMarks .NotIn b = false := by rfl) : DE O X (.Compare a [.NotIn] [b] pos) (dOp (rKdIn true d tab miss) ta tb) := by
  obtain ⟨es, n, D⟩ := T.kd
  exact de_cmp (op_notIn_kd D) (od_kdNotIn T) ha hb hm
theorem dt_kdIn (T : KdTab X.K X.w X.mg x d tab miss) (ha : DE O X a ta) (hb : DE O X b tb) (hm : behindInMarks .In b = false := by rfl) : DT O X (.Compare a [.In] [b] pos) (dTest (dOp (rKdIn false d tab miss) ta tb)) := by
  obtain ⟨es, n, D⟩ := T.kd
  exact dt_cmp (op_in_kd D) (od_kdIn T) ha hb hm
theorem dt_kdNotIn (T : KdTab X.K X.w X.mg x d tab miss) (ha : DE O X a ta) (hb : DE O X b tb) (hm : behindInMarks .NotIn b = false := by rfl) : DT O X (.Compare a [.NotIn] [b] pos) (dTest (dOp (rKdIn true d tab miss) ta tb)) := by
  obtain ⟨es, n, D⟩ := T.kd
  exact dt_cmp (op_notIn_kd D) (od_kdNotIn T) ha hb hm
end
section
variable {K : PySem.W.Frag} {d : Addr} {tab : List (Str × D)}
def Hits (K : PySem.W.Frag) (d : Addr) (tab : List (Str × D)) : Prop := ∀ z e, tab.lookup z = some e → ∃ u v, PySem.W.nsIn K d z = some (some u) ∧ RelV v u ∧ ∀ F H, Rep K F H e v
theorem hits_nil : Hits K d [] := fun z e h => by simp at h
theorem hits_cons {w : Str} {e : D} {u : Value} {v : V} (h : PySem.W.nsIn K d w = some (some u)) (r : RelV v u) (p : ∀ F H, Rep K F H e v) (t : Hits K d tab) : Hits K d ((w, e) :: tab) := fun z e' h' => by
  rw [List.lookup_cons] at h'
  cases q : (z == w) with
  | true =>
    rw [q] at h'
    cases h'
    rw [eq_of_beq q]
    exact ⟨u, v, h, r, p⟩
  | false =>
    rw [q] at h'
    exact t z e' h'
def Misses (K : PySem.W.Frag) (d : Addr) (l : List Str) : Prop := ∀ z, z ∈ l → PySem.W.nsIn K d z = some none
theorem misses_nil : Misses K d [] := fun z h => by simp at h
theorem misses_cons {w : Str} {l : List Str} (h : PySem.W.nsIn K d w = some none) (t : Misses K d l) : Misses K d (w :: l) := fun z hz => by
  rcases List.mem_cons.mp hz with e | e
  · rw [e]; exact h
  · exact t z e
theorem rep_tupI {a : Addr} {od : Option Addr} {sl : Array (Option Value)} {n : Nat} {us : List Value} (ns : List Int) (l : K.lookup a = some ⟨.type "tuple", od, .seq us.toArray n, sl⟩) (hl : us.length ≤ 1000) (r : Vals (ns.map V.int) us) : ∀ F H, Rep K F H (.tup (ns.map D.int)) (.ref a) :=
  fun F H => ⟨a, ns.map V.int, rfl, .inr fun H' => .inr ⟨_, us.toArray, n, l, rfl, rfl, by rw [List.size_toArray, sizeLine_eq]; omega, by simpa using r⟩, RepL.of_ints ns⟩
end
/-! ### int(x): a whole number, True, False -/
def rIntD : DC2 := fun ds μ q => match ds with
  | [.int i] => q (.int i) μ
  | [.bl b] => q (.int (if b = true then 1 else 0)) μ
  | _ => False
theorem cd_int {K : PySem.W.Frag} : CallD K (fun xs H Q => (∃ i, xs = [.int i] ∧ Q (.int i) H) ∨ (∃ b, xs = [.bl b] ∧ Q (.int (if b then 1 else 0)) H)) rIntD := by
  intro O F H μ ds vs q Q hd rs t k
  unfold rIntD at t
  split at t
  · rename_i i
    obtain ⟨v, rfl, h1⟩ := repL1 rs
    obtain rfl : v = .int i := h1
    exact .inl ⟨i, rfl, k F H μ _ _ (Ext.refl F H) hd rep_int t⟩
  · rename_i b
    obtain ⟨v, rfl, h1⟩ := repL1 rs
    obtain rfl : v = .bl b := h1
    exact .inr ⟨b, rfl, k F H μ _ _ (Ext.refl F H) hd rep_int t⟩
  · exact t.elim
end DL

set_option Elab.async false
set_option linter.all false
set_option maxRecDepth 100000
/-! DE2: enumerate of a tuple -/
namespace DL
open PySem L2 PySem.Spec PyProof.Rows
open AutoSeq1 (wpAny_loadPart')
theorem meets_enumerate_newT (l : Addr) (items : Array Value) :
    Meets (Builtin.«enumerate.__new__» ⟨[.type "enumerate", .ref l], []⟩) (fun _ R s => s.heap.IsTuple l items ∧
      R (.ok (.ret (.ref (s.heap.push { cls := .type "tuple_iterator", data := .fields #[.ref l, .int 0 0] }).objs.size)))
        { s with heap := (s.heap.push { cls := .type "tuple_iterator", data := .fields #[.ref l, .int 0 0] }).push { cls := .type "enumerate", data := .fields #[.none, .bool false, .ref s.heap.objs.size, rawInt 0, .none, .none] } }) :=
  .of_wp fun prog w A R s h => by
    obtain ⟨hp, g, d, tk, os⟩ := s; obtain ⟨hL, h⟩ := h
    have hsub := sub_enumerate
    wp_walk
    refine wpAny_stack_any fun st => wpAny_pure ?_
    split
    · rename_i c _ _ _ _ _
      cases (c == Value.type "enumerate")
      · wp_walk using wpAny_pyIter_tuple hL
        exact ⟨_, rfl, h⟩
      · wp_walk using wpAny_pyIter_tuple hL
        exact ⟨_, rfl, h⟩
    · wp_walk using wpAny_pyIter_tuple hL
      exact ⟨_, rfl, h⟩
theorem call_enumerate_tuple {prog : Program} {w : World} {A : Around} {E : Value → Shared → Prop} {s : Shared} {l : Addr} {items : Array Value} {Q : Value → Shared → Prop} (hL : s.heap.IsTuple l items)
    (h : ∀ h', IsEnum h' (s.heap.objs.size + 1) s.heap.objs.size 0 .none → h'.IsTupleIter s.heap.objs.size l 0 → h'.objs.size = s.heap.objs.size + 2 →
      (∀ b o, s.heap.get? b = some o → h'.get? b = some o) → Q (.ref (s.heap.objs.size + 1)) { s with heap := h' }) :
    wpAny (model prog w) A (call (.type "enumerate") [.ref l]) Q E s := by
  refine callType_new F.called_enumerate (by decide) (F.typeCall_enumerate_1 _) (F.newCall_enumerate_1 _) (fun obj => F.args_object_init_2 obj _) F.entry_enumerate_new
    (meets_enumerate_newT l items) ⟨hL, ?_⟩
  have hz : (s.heap.push { cls := .type "tuple_iterator", data := .fields #[.ref l, .int 0 0] }).objs.size = s.heap.objs.size + 1 := Heap.size_push ..
  show _ ∧ _
  rw [hz]
  have he : IsEnum ((s.heap.push { cls := .type "tuple_iterator", data := .fields #[.ref l, .int 0 0] }).push
      { cls := .type "enumerate", data := .fields #[.none, .bool false, .ref s.heap.objs.size, rawInt 0, .none, .none] }) (s.heap.objs.size + 1) s.heap.objs.size 0 .none := by
    have := Heap.get?_push_size (s.heap.push { cls := .type "tuple_iterator", data := .fields #[.ref l, .int 0 0] })
      (o := { cls := .type "enumerate", data := .fields #[.none, .bool false, .ref s.heap.objs.size, rawInt 0, .none, .none] }) rfl
    rw [hz] at this; exact this
  refine ⟨⟨_, he, rfl⟩, h _ he ⟨_, Heap.get?_push_of_some _ (Heap.get?_push_size _ rfl), rfl, rfl⟩ (by rw [Heap.size_push, hz]) fun b o x => Heap.get?_push_of_some _ (Heap.get?_push_of_some _ x)⟩
theorem drawsTup {prog : Program} {w : World} {A : Around} (hh : A.handled = none) (it l : Addr) (hne : l ≠ it) (items : Array Value) :
    Draws prog w A it [it, l] items.size (fun i v => items[i]? = some v) (fun i h => h.IsTupleIter it l i ∧ h.IsTuple l items) where
  live := fun _ _ st => let ⟨o, ho, _⟩ := st.1; ⟨o, ho⟩
  frame := fun _ _ _ st hk => ⟨let ⟨o, e, r⟩ := st.1; ⟨o, hk it (by simp) o e, r⟩, let ⟨o, e, r⟩ := st.2; ⟨o, hk l (by simp) o e, r⟩⟩
  item := fun i s Q E hi st hQ => by
    refine RZ.nextOf_tuple_item st.1 st.2 (x := items[i]) (by simp [hi]) fun h' hit' hs' => ?_
    obtain ⟨o, e, r⟩ := st.2
    exact hQ _ h' s.toks (by simp [hi]) ⟨hit', o, hs'.extBut l o hne e, r⟩ hs'
  done := fun s Q E st hE => RZ.nextOf_tuple_end hh st.1 st.2 (by simp) hE
/-- the tuple at a, each item in a new pair -/
def IteT (K : PySem.W.Frag) (a : Addr) : It :=
  ⟨fun i H => ∃ (xs : List V) (x : V), SqT K H a xs ∧ xs[i]? = some x, fun i H v H' => ∃ T x, v = .ref T ∧ H T = none ∧ H' = upd H T (.tup [.int (i : Nat), x]) ∧ ∀ xs, SqT K H a xs → xs[i]? = some x, fun i H => ∃ xs : List V, SqT K H a xs ∧ xs.length ≤ i⟩
theorem turn_enumT {P : Program} {w : World} {K : PySem.W.Frag} {elts : List Expr} {kk : Nat} {tpos : Pos} (a e it : Addr) (hai : a ≠ it) (hae : a ≠ e) :
    Turn P w K (.Tuple elts kk tpos) (IteT K a) [e, it] e (fun i h => (∃ old, IsEnum h e it ((i : Nat) : Int) old) ∧ h.IsTupleIter it a i ∧ e ≠ it) where
  mem := by simp
  obj := fun i h st b hb => by
    obtain ⟨⟨old, he⟩, ⟨o, ho, hc, hd⟩, _⟩ := st
    have e' : b = e ∨ b = it := by simpa using hb
    rcases e' with z | z
    · rw [z]; exact ⟨_, he, fun v q => nomatch q⟩
    · rw [z]; exact ⟨o, ho, fun v q => by rw [hd] at q; cases q⟩
  keep := fun i h h' st k => let ⟨⟨old, he⟩, ⟨o, q, r⟩, hne⟩ := st; ⟨⟨old, k e (by simp) _ he⟩, ⟨o, k it (by simp) o q, r⟩, hne⟩
  item := by
    intro X hP hw hK hc i pins s σ H E I hf st hg
    subst hP hw hK
    obtain ⟨⟨old, he⟩, hit, hne⟩ := st
    obtain ⟨xs, x, hq, hx⟩ := hg
    obtain ⟨its, rv, p, hz⟩ := I.tuple hq
    obtain ⟨u, hu, ru⟩ := rv.get hx
    have hel : e < s.heap.objs.size := Heap.lt_size he
    have hil : it < s.heap.objs.size := by obtain ⟨_, q, _⟩ := hit; exact Heap.lt_size q
    have hlt : i < its.toArray.size := by
      have := (List.getElem?_eq_some_iff.mp hu).1
      simpa using this
    refine wpAny_pyNext_enum_itemD (drawsTup (prog := X.prog) (w := X.w) (A := X.A.in1) (I.ok.hd hc) it a hai its.toArray) he ⟨hit, p⟩ hlt hne (by simp [hne, Ne.symm hae]) fun x' h' tk hx' ho hit' hT hsz hk => ?_
    have ex : x' = u := by
      have h1 : its[i]? = some x' := by simpa using hx'
      rw [hu] at h1; exact (Option.some.inj h1).symm
    subst ex
    refine ⟨_, rfl, wpAny_letOwnedTupleGo_enum (s := { s with heap := h', toks := tk + 1 }) ho fun h'' he' sb => ?_⟩
    have hT2 : h''.get? s.heap.objs.size = some { cls := .type "tuple", data := .seq #[.int i tk, x'] } := (sb.2 _ (Nat.ne_of_gt hel)).trans hT
    have new : ObjOk X.prog X.w (upd H s.heap.objs.size (.tup [.int (i : Nat), x])) h'' s.heap.objs.size (.tup [.int (i : Nat), x]) :=
      ⟨by show 2 ≤ sizeLine; decide, [.int i tk, x'], .cons ⟨_, rfl⟩ (.cons ru .nil), ⟨_, hT2, rfl, _, rfl⟩⟩
    have I1 : Inv X pins σ (upd H s.heap.objs.size (.tup [.int (i : Nat), x])) { s with heap := h'', toks := tk + 1 } :=
      I.turnedNew (ch := [e, it]) (fun b ob hb q => (sb.2 b (fun z => hb (by simp [z]))).trans (hk b ob (fun z => hb (by simp [z])) (fun z => hb (by simp [z])) q)) hf (Nat.le_refl _) new
    refine ⟨.ref s.heap.objs.size, _, I1, rfl, ⟨_, x, rfl, I.hok.fresh (Nat.le_refl _), rfl, fun ys hy => by rw [I.tuple_inj hy hq]; exact hx⟩, ⟨⟨x', ?_⟩, ?_, hne⟩, fun b hb => ?_⟩
    · have e1 : ((i + 1 : Nat) : Int) = (i : Int) + 1 := by omega
      rw [e1]; exact he'
    · obtain ⟨o, q, r⟩ := hit'.1
      exact ⟨o, (sb.2 it (Ne.symm hne)).trans q, r⟩
    · have hb' : b < s.heap.objs.size := by
        have e' : b = e ∨ b = it := by simpa using hb
        rcases e' with z | z
        · rw [z]; exact hel
        · rw [z]; exact hil
      rw [upd_ne (Nat.ne_of_lt hb')]
      exact (hf b hb).1
  done := by
    intro X hP hw hK hc i pins s σ H E I hf st hg
    subst hP hw hK
    obtain ⟨⟨old, he⟩, hit, hne⟩ := st
    obtain ⟨xs, hq, hx⟩ := hg
    obtain ⟨its, rv, p, hz⟩ := I.tuple hq
    obtain ⟨f0, f1, f2, f3, f4, f5⟩ := hf it (by simp)
    have hl := rv.length
    have hT : s.TypeIs (.ref e) "enumerate" := ⟨_, he, rfl⟩
    unfold pyNext
    refine wpAny_bind (wpAny_attempt (wpAny_callSpecial?_slot (name := Str.ofString "__next__") hT F.slot_enumerate_next
      (wpAny_call_entry F.slot_enumerate_next hT F.entry_enumerate_next ?_ (F.args_enumerate_next_1 _))))
    show wpAny _ _ (field (.ref e) 2 >>= _) _ _ _
    refine wpAny_bind (wpAny_field he rfl (x := .ref it) rfl ?_)
    refine wpAny_bind (RZ.nextOf_tuple_end (A := X.A.in1) (I.ok.hd hc) hit p (by simp; omega) fun h' x he' hx' => ?_)
    obtain ⟨o, ho, hc'⟩ := hx'
    refine wpAny_bind (wpAny_isInstance (T := "StopIteration") (b := true) ⟨o, ho, hc'⟩ isSubtype_stop ?_)
    exact wpAny_pure ⟨rfl, I.turned (t' := s.toks) (fun b o hb q => he' b o hb q) f0 f1 f3 f4 f5⟩
  self := fun A i s Q E st h => let ⟨⟨_, he⟩, _⟩ := st; wpAny_pyIter_enum he h
def iEnumT (K : PySem.W.Frag) (ta : TA) : TI := fun σ H R => ta σ H fun vs H1 => ∃ a xs, vs = [.ref a] ∧ SqT K H1 a xs ∧ R (IteT K a) H1
theorem pi_enumT {X : Cx} {e : Expr} {ta : TA} {p pos tpos : Pos} {elts : List Expr} {kk : Nat} (hg : Gl X "enumerate") (hm : X.mg "enumerate" = none) (ha : PA X [e] ta) (hs : starEach [e] X.env = [(false, eval e X.env)] := by rfl) :
    PI X (.Tuple elts kk tpos) (.Call (.Name "enumerate" p) [e] [] pos) (iEnumT X.K ta) := by
  refine ⟨fun pins s σ H R I h => ?_⟩
  refine Call_ (ld_blt I hg hm boot_enumerate (PyProof.Rows.callWith_type1 (thn (ha.run pos pins s σ H _ I h) fun us s1 ⟨vs, H1, I1, r1, q1⟩ => ?_) hs rfl))
  obtain ⟨a, xs, ex, hq, q⟩ := q1
  subst ex
  cases r1 with
  | cons r rr =>
    cases rr
    cases r
    obtain ⟨its, rv, p', hz⟩ := I1.tuple hq
    have hlt : a < s1.heap.objs.size := by obtain ⟨o, ho, _⟩ := p'; exact Heap.lt_size ho
    refine call_enumerate_tuple (items := its.toArray) p' fun h' he hit hsz hk => wpAny_pyIter_enum he ?_
    have I2 : Inv X pins σ H1 { s1 with heap := h' } := I1.kept (t' := s1.toks) hk
    refine ⟨s1.heap.objs.size + 1, [s1.heap.objs.size + 1, s1.heap.objs.size], _, _, H1, rfl, I2, turn_enumT a (s1.heap.objs.size + 1) s1.heap.objs.size (Nat.ne_of_lt hlt) (Nat.ne_of_lt (Nat.lt_succ_of_lt hlt)), ⟨⟨.none, he⟩, hit, Nat.succ_ne_self _⟩, fun b hb => ?_, q⟩
    have e' : b = s1.heap.objs.size + 1 ∨ b = s1.heap.objs.size := by simpa using hb
    have hle : s1.heap.objs.size ≤ b := by
      rcases e' with z | z
      · rw [z]; exact Nat.le_add_right _ _
      · rw [z]; exact Nat.le_refl _
    exact I1.fpOk hle (I1.hok.fresh hle)
section
variable {K : PySem.W.Frag} {O : Org} {F : Zo} {H : Hp}
theorem itok_enumT {items : List D} {a : Addr} {vs : List V} (hr : RepL K F H items vs)
    (st : ∀ F2 H2 μ2, Ext F H F2 H2 → Hd K O F2 H2 μ2 → SqT K H2 a vs) : ItOk K O F H (enumD 0 items) (fun _ => True) (IteT K a) := by
  have hlen := hr.length
  refine ⟨fun i F2 H2 μ2 e hd _ h => ?_, fun i F2 H2 μ2 x H3 e hd _ h hy => ?_, fun i F2 H2 μ2 e hd _ h => ?_⟩
  · rw [enumD_len] at h
    have hl : i < vs.length := by omega
    exact ⟨vs, vs[i], st F2 H2 μ2 e hd, by simp [hl]⟩
  · rw [enumD_len] at h
    obtain ⟨T, y, rfl, hT, rfl, hx⟩ := hy
    obtain ⟨d, e1, e2⟩ := (hr.ext e).get' (hx vs (st F2 H2 μ2 e hd))
    refine ⟨_, .tup [.int (i : Nat), d], ext_newF hd hT, hd.newF hT, ?_, ⟨T, _, rfl, .inl ⟨.inr rfl, .inl upd_same⟩, .cons rfl (.cons (e2.ext (ext_newF hd hT)) RepL.nil)⟩⟩
    have := enumD_get (k := 0) e1
    rwa [Nat.zero_add] at this
  · rw [enumD_len] at h
    exact ⟨vs, st F2 H2 μ2 e hd, by omega⟩
/-- of a list that is written, but not while it is walked -/
theorem itok_enumM {items : List D} {p : Addr} {vs : List V} (h0 : H p = some (.lst vs)) (hr : RepL K F H items vs) : ItOk K O F H (enumD 0 items) (fun μ => μ p = some (.lst items)) (Ite K p) := by
  have hlen := hr.length
  have q : ∀ F2 H2 μ2, Hd K O F2 H2 μ2 → μ2 p = some (.lst items) → ∃ ws, SqL K H2 p ws ∧ RepL K F2 H2 items ws := fun F2 H2 μ2 hd k => by
    obtain ⟨_, ws, h1, h2⟩ := hd.own p _ k
    exact ⟨ws, SqL.of h1, h2⟩
  refine ⟨fun i F2 H2 μ2 e hd k h => ?_, fun i F2 H2 μ2 x H3 e hd k h hy => ?_, fun i F2 H2 μ2 e hd k h => ?_⟩
  · rw [enumD_len] at h
    obtain ⟨ws, h1, h2⟩ := q F2 H2 μ2 hd k
    have hl : i < ws.length := by rw [← h2.length]; exact h
    exact ⟨ws, ws[i], h1, by simp [hl]⟩
  · obtain ⟨ws, h1, h2⟩ := q F2 H2 μ2 hd k
    obtain ⟨T, y, rfl, hT, rfl, hx⟩ := hy
    obtain ⟨d, e1, e2⟩ := h2.get' (hx ws h1)
    refine ⟨_, .tup [.int (i : Nat), d], ext_newF hd hT, hd.newF hT, ?_, ⟨T, _, rfl, .inl ⟨.inr rfl, .inl upd_same⟩, .cons rfl (.cons (e2.ext (ext_newF hd hT)) RepL.nil)⟩⟩
    have := enumD_get (k := 0) e1
    rwa [Nat.zero_add] at this
  · rw [enumD_len] at h
    obtain ⟨ws, h1, h2⟩ := q F2 H2 μ2 hd k
    exact ⟨ws, h1, by rw [← h2.length]; exact h⟩
end
/-- enumerate of a list or a tuple -/
def diEnX (te : DTA) : DTI := fun δ μ q => te δ μ fun ds μ1 => match ds with
  | [.tup l] => q (enumD 0 l) (fun _ => True) μ1
  | [.lst l] => q (enumD 0 l) (fun _ => True) μ1
  | [.rol l] => q (enumD 0 l) (fun _ => True) μ1
  | [.adr p] => ∃ l, μ1 p = some (.lst l) ∧ q (enumD 0 l) (fun μ => μ p = some (.lst l)) μ1
  | _ => False
def iEnumX (K : PySem.W.Frag) (ta : TA) : TI := fun σ H R => ta σ H fun vs H1 => ∃ a, vs = [.ref a] ∧ ((∃ xs, SqT K H1 a xs ∧ R (IteT K a) H1) ∨ ∃ xs, SqL K H1 a xs ∧ R (Ite K a) H1)
theorem pi_enumX {X : Cx} {e : Expr} {ta : TA} {p pos tpos : Pos} {elts : List Expr} {kk : Nat} (hg : Gl X "enumerate") (hm : X.mg "enumerate" = none) (ha : PA X [e] ta) (hs : starEach [e] X.env = [(false, eval e X.env)]) :
    PI X (.Tuple elts kk tpos) (.Call (.Name "enumerate" p) [e] [] pos) (iEnumX X.K ta) := by
  refine ⟨fun pins s σ H R I h => ?_⟩
  refine Call_ (ld_blt I hg hm boot_enumerate (PyProof.Rows.callWith_type1 (thn (ha.run pos pins s σ H _ I h) fun us s1 ⟨vs, H1, I1, r1, q1⟩ => ?_) hs rfl))
  obtain ⟨a, ex, q1⟩ := q1
  subst ex
  cases r1 with
  | cons r rr =>
    cases rr
    cases r
    have fp : ∀ b ∈ [s1.heap.objs.size + 1, s1.heap.objs.size], FpOk X pins H1 b := fun b hb => by
      have e' : b = s1.heap.objs.size + 1 ∨ b = s1.heap.objs.size := by simpa using hb
      have hle : s1.heap.objs.size ≤ b := by
        rcases e' with z | z
        · rw [z]; exact Nat.le_add_right _ _
        · rw [z]; exact Nat.le_refl _
      exact I1.fpOk hle (I1.hok.fresh hle)
    rcases q1 with ⟨xs, hq, q⟩ | ⟨xs, hq, q⟩
    · obtain ⟨its, rv, p', hz⟩ := I1.tuple hq
      have hlt : a < s1.heap.objs.size := by obtain ⟨o, ho, _⟩ := p'; exact Heap.lt_size ho
      refine call_enumerate_tuple (items := its.toArray) p' fun h' he hit hsz hk => wpAny_pyIter_enum he ?_
      have I2 : Inv X pins σ H1 { s1 with heap := h' } := I1.kept (t' := s1.toks) hk
      exact ⟨s1.heap.objs.size + 1, [s1.heap.objs.size + 1, s1.heap.objs.size], _, _, H1, rfl, I2, turn_enumT a (s1.heap.objs.size + 1) s1.heap.objs.size (Nat.ne_of_lt hlt) (Nat.ne_of_lt (Nat.lt_succ_of_lt hlt)), ⟨⟨.none, he⟩, hit, Nat.succ_ne_self _⟩, fp, q⟩
    · obtain ⟨its, rv, p', hz⟩ := I1.list hq
      refine call_enumerate_list p'.isList fun h' he hit hsz hk => wpAny_pyIter_enum he ?_
      have I2 : Inv X pins σ H1 { s1 with heap := h' } := I1.kept (t' := s1.toks) hk
      exact ⟨s1.heap.objs.size + 1, [s1.heap.objs.size + 1, s1.heap.objs.size], _, _, H1, rfl, I2, turn_enum a (s1.heap.objs.size + 1) s1.heap.objs.size, ⟨⟨.none, he⟩, hit, Nat.succ_ne_self _⟩, fp, q⟩
theorem di_enX {O : Org} {X : Cx} {e : Expr} {t : DTA} {pos p tpos : Pos} {elts : List Expr} {kk : Nat} (hg : Gl X "enumerate") (hm : X.mg "enumerate" = none) (ha : DA O X [e] t) (hs : starEach [e] X.env = [(false, eval e X.env)] := by rfl) :
    DI O X (.Tuple elts kk tpos) (.Call (.Name "enumerate" p) [e] [] pos) (diEnX t) :=
  pi_weak (pi_enumX hg hm ha hs) fun σ H R ⟨F, δ, μ, q, hd, rs, t, k⟩ => ⟨F, δ, μ, _, hd, rs, t, fun F1 H1 μ1 ds vs e1 hd1 r1 t1 => by
    match ds, t1, r1 with
    | [.tup l], t1, r1 =>
      obtain ⟨v, rfl, h1⟩ := repL1 r1
      obtain ⟨a, us, rfl, h2, h3⟩ := h1
      exact ⟨a, rfl, .inl ⟨us, h2.sq, k F1 H1 μ1 _ _ _ e1 hd1 (itok_enumT h3 fun F2 H2 μ2 e2 hd2 => (h2.ext e2).sq) t1⟩⟩
    | [.lst l], t1, r1 =>
      obtain ⟨v, rfl, h1⟩ := repL1 r1
      obtain ⟨a, us, rfl, h2, h3⟩ := h1
      exact ⟨a, rfl, .inr ⟨us, SqL.of h2.2, k F1 H1 μ1 _ _ _ e1 hd1 (itok_enum h3 fun F2 H2 μ2 e2 hd2 => SqL.of ((e2.hf h2.1).trans h2.2)) t1⟩⟩
    | [.rol l], t1, r1 =>
      obtain ⟨v, rfl, h1⟩ := repL1 r1
      obtain ⟨a, us, rfl, h2, h3⟩ := h1
      exact ⟨a, rfl, .inr ⟨us, h2.sq, k F1 H1 μ1 _ _ _ e1 hd1 (itok_enum h3 fun F2 H2 μ2 e2 hd2 => (h2.ext e2).sq) t1⟩⟩
    | [.adr p], t1, r1 =>
      obtain ⟨v, rfl, h1⟩ := repL1 r1
      obtain rfl : v = .ref p := h1
      obtain ⟨l, hm, t1⟩ := t1
      obtain ⟨_, us, h2, h3⟩ := hd1.own p _ hm
      exact ⟨p, rfl, .inr ⟨us, SqL.of h2, k F1 H1 μ1 _ _ _ e1 hd1 (itok_enumM h2 h3) t1⟩⟩⟩
end DL

set_option Elab.async false
set_option linter.all false
set_option maxRecDepth 100000
/-! DE3: texts: walked, compared -/
namespace DL
open PySem L2
def rLeX : DR2 := fun x y μ q => match x, y with
  | .int i, .int j => q (.bl (decide (i ≤ j))) μ
  | .str i, .str j => q (.bl (!decide (j.cps.toList < i.cps.toList))) μ
  | _, _ => False
theorem op_leX {X : Cx} : OpR X (compareOp .LtE) (fun x y H Q => (rI0 fun i j => .bl (decide (i ≤ j))) x y H Q ∨ (fun x y H Q => ∃ i j, x = .str i ∧ y = .str j ∧ Q (.bl (!decide (j.cps.toList < i.cps.toList))) H) x y H Q) := op_le.or op_le_str
theorem od_leX {K : PySem.W.Frag} : OpD K (fun x y H Q => (rI0 fun i j => .bl (decide (i ≤ j))) x y H Q ∨ (fun x y H Q => ∃ i j, x = .str i ∧ y = .str j ∧ Q (.bl (!decide (j.cps.toList < i.cps.toList))) H) x y H Q) rLeX := by
  intro O F H μ x y v w q Q hd rx ry t k
  unfold rLeX at t
  split at t
  · rename_i i j
    obtain rfl : v = .int i := rx
    obtain rfl : w = .int j := ry
    exact .inl ⟨i, j, rfl, rfl, k F H μ _ _ (Ext.refl F H) hd rep_bl t⟩
  · rename_i i j
    obtain rfl : v = .str i := rx
    obtain rfl : w = .str j := ry
    exact .inr ⟨i, j, rfl, rfl, k F H μ _ _ (Ext.refl F H) hd rep_bl t⟩
  · exact t.elim
/-- the signs of a text -/
def sgs (z : Str) : List D := z.cps.toList.map fun c => .str ⟨#[c]⟩
theorem itok_str {K : PySem.W.Frag} {O : Org} {F : Zo} {H : Hp} (z : Str) : ItOk K O F H (sgs z) (fun _ => True) (Its z) := by
  have hl : (sgs z).length = z.cps.toList.length := by simp [sgs]
  refine ⟨fun i F2 H2 μ2 _ _ _ h => ?_, fun i F2 H2 μ2 x H3 e hd _ h hy => ?_, fun i F2 H2 μ2 _ _ _ h => ?_⟩
  · rw [hl] at h
    first | exact h | simpa using h
  · obtain ⟨rfl, c, hc, rfl⟩ := hy
    refine ⟨F2, .str ⟨#[c]⟩, Ext.refl _ _, hd, ?_, rfl⟩
    unfold sgs
    rw [List.getElem?_map, Array.getElem?_toList, hc]; rfl
  · rw [hl] at h
    first | exact h | simpa using h
/-- a list, a tuple, a text -/
def diSq (te : DTE) : DTI := fun δ μ q => te δ μ fun d μ1 => match d with
  | .tup l => q l (fun _ => True) μ1
  | .lst l => q l (fun _ => True) μ1
  | .rol l => q l (fun _ => True) μ1
  | .str z => q (sgs z) (fun _ => True) μ1
  | .adr p => ∃ l, μ1 p = some (.lst l) ∧ q l (fun μ => μ p = some (.lst l)) μ1
  | _ => False
def iSeqX (K : PySem.W.Frag) (tl : TE) : TI := fun σ H R => tl σ H fun x H1 => (∃ z, x = .str z ∧ R (Its z) H1) ∨ ∃ a, x = .ref a ∧ (((∃ xs, SqL K H1 a xs) ∧ R (Itl K a) H1) ∨ ((∃ xs, SqT K H1 a xs) ∧ R (Itt K a) H1))
theorem pi_seqX {X : Cx} {tg l : Expr} {tl : TE} (hl : PE X l tl) : PI X tg l (iSeqX X.K tl) := by
  constructor
  intro pins s σ H R I h
  refine thn (hl.run pins s σ H _ I h) ?_
  rintro v s1 ⟨x, H1, I1, r1, hq⟩
  have new := I1.hok.fresh (Nat.le_refl s1.heap.objs.size)
  have fp : ∀ b ∈ [s1.heap.objs.size], FpOk X pins H1 b := by
    intro b hb
    rw [List.mem_singleton.mp hb]
    exact I1.fpOk (Nat.le_refl _) new
  rcases hq with ⟨z, e, q⟩ | ⟨a, e, hq⟩
  · subst e
    obtain ⟨t, rfl⟩ := r1
    cases ha : z.cps.all (· < 128)
    · exact wpAny_pyIter_wide ha (pi_one (tk := s1.toks) I1 _ (turn_str _ z t "str_iterator" (.inr rfl)) ⟨_, Heap.get?_push_size _ rfl, rfl, rfl⟩ q)
    · exact wpAny_pyIter_ascii ha (pi_one (tk := s1.toks) I1 _ (turn_str _ z t "str_ascii_iterator" (.inl rfl)) ⟨_, Heap.get?_push_size _ rfl, rfl, rfl⟩ q)
  subst e
  cases r1
  rcases hq with ⟨⟨xs, hx⟩, q⟩ | ⟨⟨xs, hx⟩, q⟩
  · obtain ⟨its, _, pl, _⟩ := I1.list hx
    refine wpAny_pyIter_list pl.isList ?_
    exact ⟨s1.heap.objs.size, [s1.heap.objs.size], _, Itl X.K a, H1, rfl, I1.kept (t' := s1.toks) (fun _ _ z => Heap.get?_push_of_some _ z), turn_list a _, ⟨_, Heap.get?_push_size _ rfl, rfl, rfl⟩, fp, q⟩
  · obtain ⟨its, _, pl, _⟩ := I1.tuple hx
    refine wpAny_pyIter_tuple (items := its.toArray) pl ?_
    exact ⟨s1.heap.objs.size, [s1.heap.objs.size], _, Itt X.K a, H1, rfl, I1.kept (t' := s1.toks) (fun _ _ z => Heap.get?_push_of_some _ z), turn_tuple a _, ⟨_, Heap.get?_push_size _ rfl, rfl, rfl⟩, fp, q⟩
theorem di_sq {O : Org} {X : Cx} {tg e : Expr} {te : DTE} (he : DE O X e te) : DI O X tg e (diSq te) := pi_weak (pi_seqX he) fun σ H R ⟨F, δ, μ, q, hd, rs, t, k⟩ =>
  ⟨F, δ, μ, _, hd, rs, t, fun F1 H1 μ1 d v e1 hd1 r1 t1 => by
    cases d <;> first | exact False.elim t1 | skip
    · rename_i z
      exact .inl ⟨z, r1, k F1 H1 μ1 _ _ _ e1 hd1 (itok_str z) t1⟩
    · rename_i p
      obtain rfl : v = .ref p := r1
      obtain ⟨l, hm, t1⟩ := t1
      obtain ⟨_, vs, h1, h2⟩ := hd1.own p _ hm
      refine .inr ⟨p, rfl, .inl ⟨⟨vs, SqL.of h1⟩, k F1 H1 μ1 l _ _ e1 hd1 (itok_list h2 fun F2 H2 μ2 e2 hd2 k2 => ?_) t1⟩⟩
      obtain ⟨_, ws, h3, h4⟩ := hd2.own p _ k2
      exact .inr ⟨ws, SqL.of h3, h4⟩
    · obtain ⟨a, vs, rfl, h1, h2⟩ := r1
      exact .inr ⟨a, rfl, .inr ⟨⟨vs, h1.sq⟩, k F1 H1 μ1 _ _ _ e1 hd1 (itok_tup h2 h1) t1⟩⟩
    · obtain ⟨a, vs, rfl, h1, h2⟩ := r1
      exact .inr ⟨a, rfl, .inl ⟨⟨vs, SqL.of h1.2⟩, k F1 H1 μ1 _ _ _ e1 hd1 (itok_list h2 fun F2 H2 μ2 e2 hd2 k2 => .inl (SqL.of ((e2.hf h1.1).trans h1.2))) t1⟩⟩
    · obtain ⟨a, vs, rfl, h1, h2⟩ := r1
      exact .inr ⟨a, rfl, .inl ⟨⟨vs, h1.sq⟩, k F1 H1 μ1 _ _ _ e1 hd1 (itok_list h2 fun F2 H2 μ2 e2 hd2 k2 => .inl (h1.ext e2).sq) t1⟩⟩⟩
end DL

set_option Elab.async false
set_option linter.all false
set_option maxRecDepth 100000
/-! DW: list(range(a, b)) with ends of any size -/
namespace DL
open PySem L2 PySem.Spec PyProof.Rows
section
variable {prog : Program} {w : World} {A : Around} {E : Value → Shared → Prop} {s : Shared}
abbrev Fin2 (prog : Program) (w : World) (A : Around) (R : Result → Shared → Prop) : Fin → Shared → Prop := fun fin s' => match fin with
  | .done f => R (.ok f) s'
  | .again c' => c'.quiet = true ∧ codeAny (model prog w) A c' R s'
/-- what the filled list is -/
abbrev Filled (s : Shared) (S : Addr) (a c : Int) (n : Nat) (R : Result → Shared → Prop) (res : Value) : Prop :=
  ∀ h' tk acc' c', (∀ b o, b ≠ S → s.heap.get? b = some o → h'.get? b = some o) → h'.get? S = some { cls := .type "list", dict := none, data := .seq acc' c', slots := #[] } →
    ItemsOf (fun i v => ∃ t, v = .int (a + i * c) t) acc' n → R (.ok (.ret res)) { s with heap := h', toks := tk }
abbrev longObj (a b c : Int) : Obj := { cls := .type "longrange_iterator", data := .fields #[rawInt a, rawInt (Builtin.Range.rangeSize a b c), rawInt c] }
theorem extend_long {R : Result → Shared → Prop} {r : Addr} {a b c : Int} {t u v : Tok} {n : Nat} (hh : A.handled = none) (hr : IsRange s.heap r a b c t u v) (big : Builtin.Range.small a b c = false)
    (hn : Builtin.Range.rangeSize a b c = n) (hlen : n ≤ 2 ^ 24) (S : Addr) (res : Value) (c₀ : Nat) (hS : s.heap.get? S = some { cls := .type "list", data := .seq #[] c₀ }) (hR : Filled s S a c n R res) :
    wpAny (model prog w) A.in1 (Builtin.List.listExtendWith (.ref S) (.ref r) res) (Fin2 prog w A R) (fun e s' => R (.error e) s') s := by
  have ne : S ≠ r := fun e => by rw [e, hr] at hS; simp at hS
  have lt : S < s.heap.objs.size := Heap.lt_size hS
  have neI : S ≠ s.heap.objs.size := Nat.ne_of_lt lt
  have W := (Walks.longrange (prog := prog) (w := w) (A := A.in1) hh s.heap.objs.size a c n).toS
  have go : ∀ (h : Heap) (c₁ tk : Nat), IsLongIter h s.heap.objs.size (a + ((0 : Nat) : Int) * c) ((n : Int) - ((0 : Nat) : Int)) c → (∀ b o, b ≠ S → s.heap.get? b = some o → h.get? b = some o) →
      h.get? S = some { cls := .type "list", data := .seq #[] c₁ } → codeAny (model prog w) A (.builtin "list.extend.loop" ⟨[.ref S, .ref s.heap.objs.size, res], []⟩) R { s with heap := h, toks := tk } := by
    intro h c₁ tk it keep hS1
    refine codeAny_extend_loopS W (by rw [sizeLine_eq]; omega) S (fun z => neI (List.mem_singleton.mp z)) res n 0 _ #[] c₁ rfl (Nat.zero_le _) it hS1 (ItemsOf.nil _) fun s2 acc2 c2 mv hS2 its => ?_
    rw [Moved.eq_with mv]
    refine hR s2.heap s2.toks acc2 c2 (fun b o hb e => mv.heap b o (fun z => ?_) (keep b o hb e)) hS2 its
    rcases List.mem_cons.mp z with z | z
    · exact hb z
    · rw [List.mem_singleton.mp z] at e
      exact Nat.lt_irrefl _ (Heap.lt_size e)
  unfold Builtin.List.listExtendWith
  refine wpAny_bind (wpAny_typeOf (T := "range") ⟨_, hr, rfl⟩ ?_)
  simp only [show Builtin.List.listSameRef (.ref S) (.ref r) = false by simp [Builtin.List.listSameRef, ne], show (Value.type "range" == Value.type "list") = false by decide, show (Value.type "range" == Value.type "tuple") = false by decide, Bool.or_false, Bool.false_eq_true, if_false]
  refine wpAny_bind (wpAny_pyIter_longrange hr big ?_)
  refine wpAny_bind (wpAny_holding (wpAny_hint_range (n := n) (Heap.get?_push_of_some _ hr) hn hlen ?_))
  have it1 : IsLongIter (s.heap.push (longObj a b c)) s.heap.objs.size (a + ((0 : Nat) : Int) * c) ((n : Int) - ((0 : Nat) : Int)) c := by
    show IsLongIter _ _ _ _ _
    rw [← hn]; simpa using Heap.get?_push_size _ rfl
  have hS1 := Heap.get?_push_of_some (longObj a b c) hS
  refine wpAny_ite_split (fun _ => ?_) (fun _ => wpAny_pure ⟨plainId_quiet F.plain_extend_loop _, go _ c₀ _ it1 (fun b o _ e => Heap.get?_push_of_some _ e) hS1⟩)
  refine wpAny_bind (wpAny_rule (wpAny_bind ?_))
  show wpAny _ _ (updateSeq S (·.push .none) >>= fun _ => updateSeq S (·.pop)) _ _ _
  refine wpAny_bind (wpAny_updateSeq hS1 rfl ?_)
  have hS2 := Heap.get?_update_self (Obj.mapSeq (·.push Value.none)) hS1 rfl
  refine wpAny_updateSeq (hz := by seq_fits) hS2 rfl ?_
  have hS3 := Heap.get?_update_self (Obj.mapSeq (·.pop)) hS2 rfl
  refine wpAny_pure ⟨plainId_quiet F.plain_extend_loop _, go _ _ _ ?_ (fun b o hb e => ?_) hS3⟩
  · rw [IsLongIter, Heap.get?_update_other _ _ neI, Heap.get?_update_other _ _ neI]; exact it1
  · rw [Heap.get?_update_other _ _ (Ne.symm hb), Heap.get?_update_other _ _ (Ne.symm hb)]; exact Heap.get?_push_of_some _ e
theorem list_long {Q : Value → Shared → Prop} {r : Addr} {a b c : Int} {t u v : Tok} {n : Nat} (hh : A.handled = none) (hr : IsRange s.heap r a b c t u v) (big : Builtin.Range.small a b c = false)
    (hn : Builtin.Range.rangeSize a b c = n) (hlen : n ≤ 2 ^ 24)
    (hQ : ∀ h' tk acc' c', (∀ b o, s.heap.get? b = some o → h'.get? b = some o) →
      h'.get? s.heap.objs.size = some { cls := .type "list", dict := none, data := .seq acc' c', slots := #[] } → ItemsOf (fun i v => ∃ t, v = .int (a + i * c) t) acc' n → Q (.ref s.heap.objs.size) { s with heap := h', toks := tk }) :
    wpAny (model prog w) A (call (.type "list") [.ref r]) Q E s := by
  refine callType_codes (Q₁ := fun obj s₁ => obj = .ref s.heap.objs.size ∧ s₁ = { s with heap := s.heap.push { cls := .type "list", data := .seq #[] } }) F.called_list (F.typeCall_list_1 _) F.entry_list_init
    (code_list_new _ ⟨rfl, rfl⟩) fun obj s₁ ⟨e1, e2⟩ => ?_
  subst e1 e2
  have hS : (s.heap.push { cls := .type "list", data := .seq #[] }).get? s.heap.objs.size = some { cls := .type "list", data := .seq #[] } := Heap.get?_push_size _ rfl
  have hr1 : IsRange (s.heap.push { cls := .type "list", data := .seq #[] }) r a b c t u v := Heap.get?_push_of_some _ hr
  have ne : s.heap.objs.size ≠ r := Nat.ne_of_gt (Heap.lt_size hr)
  refine ⟨⟨_, hS, rfl⟩, F.args_list_init_2 _ _, ?_⟩
  show wpAny _ _ (do let old ← Builtin.List.listItems (.ref s.heap.objs.size); Builtin.List.listUpdate (.ref s.heap.objs.size) (fun _ => #[]); letGo old.toList.reverse; Builtin.List.listExtendWith (.ref s.heap.objs.size) (.ref r) .none) _ _ _
  refine wpAny_bind ?_
  unfold Builtin.List.listItems
  refine wpAny_bind (wpAny_seqItems hS rfl (wpAny_pure ?_))
  show wpAny _ _ (updateSeq s.heap.objs.size (fun _ => #[]) >>= fun _ => letGo (#[] : Array Value).toList.reverse >>= fun _ => Builtin.List.listExtendWith (.ref s.heap.objs.size) (.ref r) .none) _ _ _
  refine wpAny_bind (wpAny_updateSeq hS rfl ?_)
  have hS2 := Heap.get?_update_self (Obj.mapSeq (fun _ => (#[] : Array Value))) hS rfl
  refine wpAny_bind (wpAny_letGo ?_)
  refine extend_long (A := A.in1) hh ((Heap.get?_update_other _ _ ne).trans hr1) big hn hlen _ .none _ hS2 fun h' tk acc' c' hk hS' its => ?_
  exact ⟨rfl, hQ h' tk acc' c' (fun b o e => hk b o (Nat.ne_of_lt (Heap.lt_size e)) ((Heap.get?_update_other _ _ (Nat.ne_of_gt (Heap.lt_size e))).trans (Heap.get?_push_of_some _ e))) hS' its⟩
end
section
variable {O : Org} {X : Cx} {a b e : Expr} {ta tb : DTE} {p p2 pos pos2 : Pos} {te : L2.St → Hp → (Int → Int → Hp → Prop) → Prop}
def tLstRgW (te : L2.St → Hp → (Int → Int → Hp → Prop) → Prop) : TE := fun σ H Q => te σ H fun a b H1 => (b - a).toNat ≤ 2 ^ 24 ∧ ∀ q, H1 q = none → Q (.ref q) (upd H1 q (.lst (rgV a b)))
theorem pe_listRgW (hc : X.calm = true) (hg : Gl X "list") (hm : X.mg "list" = none) (he : PRg X e te) (na : starEach [e] X.env = (false, eval e X.env) :: starEach [] X.env) : PE X (.Call (.Name "list" p) [e] [] pos) (tLstRgW te) := by
  refine ⟨fun pins s σ H Q I h => ?_⟩
  refine Call_ (ld_blt I hg hm boot_list (PyProof.Rows.callWith_type1 (args_cons (thn (he pins s σ H _ I h) fun x s1 ⟨r, a, b, t, u, v, H1, ex, hr, I1, ok, q⟩ => args_nil ?_) na) na))
  subst ex
  have fin : ∀ h' tk (acc : Array Value) c', (∀ b o, s1.heap.get? b = some o → h'.get? b = some o) → h'.get? s1.heap.objs.size = some { cls := .type "list", dict := none, data := .seq acc c', slots := #[] } →
      ItemsOf (fun i v => ∃ t, v = .int (a + i * 1) t) acc (b - a).toNat → EP X pins σ Q (.ref s1.heap.objs.size) { s1 with heap := h', toks := tk } := fun h' tk acc c' hk e' hi => by
    refine ⟨.ref s1.heap.objs.size, upd H1 s1.heap.objs.size (.lst (rgV a b)), I1.laid hk (Nat.le_refl _) (show ObjOk X.prog X.w _ _ _ (.lst (rgV a b)) from ⟨?_, acc.toList, c', vals_rg hi, ?_⟩), rfl, q _ (I1.hok.fresh (Nat.le_refl _))⟩
    · rw [rgV_length, sizeLine_eq]; omega
    · rw [Array.toArray_toList]; exact e'
  cases hs : Builtin.Range.small a b 1 with
  | true => exact call_list_range (n := (b - a).toNat) (I1.ok.hd hc) hr hs (rangeSize_nat a b) ok fin
  | false => exact list_long (n := (b - a).toNat) (I1.ok.hd hc) hr hs (rangeSize_nat a b) ok fin
/-- list(range(a, b)) -/
def dLstRw (ta tb : DTE) : DTE := fun δ μ q => ta δ μ fun x μ1 => tb δ μ1 fun y μ2 => match x, y with
  | .int i, .int j => (j - i).toNat ≤ 2 ^ 24 ∧ q (.lst (intsD i (j - i).toNat)) μ2
  | _, _ => False
def dLstRwM (ta tb : DTE) : DTE := fun δ μ q => ta δ μ fun x μ1 => tb δ μ1 fun y μ2 => match x, y with
  | .int i, .int j => (j - i).toNat ≤ 2 ^ 24 ∧ ∀ p, μ2 p = none → q (.adr p) (updM μ2 p (.lst (intsD i (j - i).toNat)))
  | _, _ => False
theorem de_listRw2 (hc : X.calm = true) (hl : Gl X "list") (hml : X.mg "list" = none) (hg : Gl X "range") (hm : X.mg "range" = none) (ha : DE O X a ta) (hb : DE O X b tb)
    (na : starEach [a, b] X.env = (false, eval a X.env) :: starEach [b] X.env := by rfl) (nb : starEach [b] X.env = (false, eval b X.env) :: starEach [] X.env := by rfl) (hp : (backTo pos2 (starEach [b] X.env)).any (·.1) = false := by rfl)
    (ne : starEach [Expr.Call (.Name "range" p2) [a, b] [] pos2] X.env = (false, eval (.Call (.Name "range" p2) [a, b] [] pos2) X.env) :: starEach [] X.env := by rfl) :
    DE O X (.Call (.Name "list" p) [.Call (.Name "range" p2) [a, b] [] pos2] [] pos) (dLstRw ta tb) :=
  pe_weak (pe_listRgW hc hl hml (prg_2 hg hm ha hb na nb hp) ne) fun σ H Q ⟨F, δ, μ, q, hd, rs, t, k⟩ =>
  ⟨F, δ, μ, _, hd, rs, t, fun F1 H1 μ1 x v e1 hd1 r1 t1 => ⟨F1, δ, μ1, _, hd1, rs.ext e1, t1, fun F2 H2 μ2 y u e2 hd2 r2 t2 => by
    have r1 := r1.ext e2
    match x, y, t2, r1, r2 with
    | .int i, .int j, ⟨ok, t2⟩, r1, r2 =>
    obtain rfl : v = .int i := r1
    obtain rfl : u = .int j := r2
    exact ⟨i, j, rfl, rfl, ok, fun q hq => k _ _ μ2 (.lst _) (.ref q) ((e1.trans e2).trans (ext_newF hd2 hq)) (hd2.newF hq) ⟨q, _, rfl, ⟨.inr rfl, upd_same⟩, rg_rep i j⟩ t2⟩⟩⟩
theorem de_listRw2M (hc : X.calm = true) (hl : Gl X "list") (hml : X.mg "list" = none) (hg : Gl X "range") (hm : X.mg "range" = none) (ha : DE O X a ta) (hb : DE O X b tb)
    (na : starEach [a, b] X.env = (false, eval a X.env) :: starEach [b] X.env := by rfl) (nb : starEach [b] X.env = (false, eval b X.env) :: starEach [] X.env := by rfl) (hp : (backTo pos2 (starEach [b] X.env)).any (·.1) = false := by rfl)
    (ne : starEach [Expr.Call (.Name "range" p2) [a, b] [] pos2] X.env = (false, eval (.Call (.Name "range" p2) [a, b] [] pos2) X.env) :: starEach [] X.env := by rfl) :
    DE O X (.Call (.Name "list" p) [.Call (.Name "range" p2) [a, b] [] pos2] [] pos) (dLstRwM ta tb) :=
  pe_weak (pe_listRgW hc hl hml (prg_2 hg hm ha hb na nb hp) ne) fun σ H Q ⟨F, δ, μ, q, hd, rs, t, k⟩ =>
  ⟨F, δ, μ, _, hd, rs, t, fun F1 H1 μ1 x v e1 hd1 r1 t1 => ⟨F1, δ, μ1, _, hd1, rs.ext e1, t1, fun F2 H2 μ2 y u e2 hd2 r2 t2 => by
    have r1 := r1.ext e2
    match x, y, t2, r1, r2 with
    | .int i, .int j, ⟨ok, t2⟩, r1, r2 =>
    obtain rfl : v = .int i := r1
    obtain rfl : u = .int j := r2
    exact ⟨i, j, rfl, rfl, ok, fun q hq => k _ _ _ (.adr q) (.ref q) ((e1.trans e2).trans (ext_new hd2 hq)) (hd2.newM (m := .lst _) hq ⟨_, upd_same, rg_rep i j⟩) rfl (t2 q (hd2.free hq))⟩⟩⟩
end
end DL

set_option Elab.async false
set_option linter.all false
set_option maxRecDepth 100000
set_option maxHeartbeats 2000000
/-! DM: max, min, sorted of a list of integers -/
namespace DL
open PySem L2
variable {K : PySem.W.Frag}
/-- max(l), min(l): the greatest, the least; there is one -/
def rMaxLD : DC2 := fun ds μ q => match ds with | [d] => ∃ ns : List Int, lstOf μ d = some (ns.map D.int) ∧ 0 < ns.length ∧ ∀ m, m ∈ ns → (∀ y, y ∈ ns → y ≤ m) → q (.int m) μ | _ => False
def rMinLD : DC2 := fun ds μ q => match ds with | [d] => ∃ ns : List Int, lstOf μ d = some (ns.map D.int) ∧ 0 < ns.length ∧ ∀ m, m ∈ ns → (∀ y, y ∈ ns → m ≤ y) → q (.int m) μ | _ => False
/-- sorted(l), not written again -/
def rSortID : DC2 := fun ds μ q => match ds with | [d] => ∃ ns : List Int, lstOf μ d = some (ns.map D.int) ∧ ∀ ms : List Int, ms.Perm ns → ms.Pairwise (· ≤ ·) → q (.lst (ms.map D.int)) μ | _ => False
theorem cd_maxL : CallD K (rMax K) rMaxLD := by
  intro O F H μ ds vs q Q hd rs t k
  unfold rMaxLD at t
  split at t
  · rename_i d
    obtain ⟨v, rfl, h1⟩ := repL1 rs
    obtain ⟨ns, e, t0, t⟩ := t
    obtain ⟨a, us, rfl, h2, h3⟩ := list_sq hd h1 e
    obtain rfl := h3.ints
    exact ⟨a, ns, rfl, h2, t0, fun m hm hy => k F H μ _ _ (Ext.refl F H) hd rep_int (t m hm hy)⟩
  · exact t.elim
theorem cd_minL : CallD K (rMin K) rMinLD := by
  intro O F H μ ds vs q Q hd rs t k
  unfold rMinLD at t
  split at t
  · rename_i d
    obtain ⟨v, rfl, h1⟩ := repL1 rs
    obtain ⟨ns, e, t0, t⟩ := t
    obtain ⟨a, us, rfl, h2, h3⟩ := list_sq hd h1 e
    obtain rfl := h3.ints
    exact ⟨a, ns, rfl, h2, t0, fun m hm hy => k F H μ _ _ (Ext.refl F H) hd rep_int (t m hm hy)⟩
  · exact t.elim
theorem cd_sortedI : CallD K (rSortedI K) rSortID := by
  intro O F H μ ds vs q Q hd rs t k
  unfold rSortID at t
  split at t
  · rename_i d
    obtain ⟨v, rfl, h1⟩ := repL1 rs
    obtain ⟨ns, e, t⟩ := t
    obtain ⟨a, us, rfl, h2, h3⟩ := list_sq hd h1 e
    obtain rfl := h3.ints
    exact ⟨a, ns, rfl, h2, fun ms p hp hs hn => k _ _ μ (.lst (ms.map D.int)) (.ref p) (ext_newF hd hn) (hd.newF hn) ⟨p, _, rfl, ⟨.inr rfl, upd_same⟩, RepL.of_ints ms⟩ (t ms hp hs)⟩
  · exact t.elim
end DL

set_option Elab.async false
set_option linter.all false
set_option maxRecDepth 100000
set_option maxHeartbeats 2000000
/-! DD: dicts that are written, with whole numbers and texts as keys -/
namespace DL
open PySem L2
def keyD : D → Option Key
  | .int i => some (.inl i)
  | .str x => some (.inr x)
  | _ => none
def valD (kvs : List (Key × D)) (k : Key) : Option D := (kvs.find? fun kv => decide (kv.1 = k)).map (·.2)
def putKD (kvs : List (Key × D)) (k : Key) (d : D) : List (Key × D) :=
  if (kvs.any fun kv => decide (kv.1 = k)) = true then kvs.map (fun kv => if kv.1 = k then (kv.1, d) else kv) else kvs ++ [(k, d)]
section
variable {O : Org} {K : PySem.W.Frag} {F : Zo} {H : Hp}
theorem rep_key {d : D} {k : Key} {v : V} (h : keyD d = some k) (r : Rep K F H d v) : v = kV k := by
  cases d <;> first | (simp [keyD] at h; done) | skip
  · obtain rfl := Option.some.inj h
    exact r
  · obtain rfl := Option.some.inj h
    exact r
theorem val_rep {k : Key} : ∀ {kvs : List (Key × D)} {vs : List V}, RepL K F H (kvs.map (·.2)) vs →
    (∀ d, valD kvs k = some d → ∃ v, valV ((kvs.map (·.1)).zip vs) k = some v ∧ Rep K F H d v) ∧ (valD kvs k = none → valV ((kvs.map (·.1)).zip vs) k = none) ∧
    ((kvs.map (·.1)).zip vs).any (fun kv => decide (kv.1 = k)) = kvs.any fun kv => decide (kv.1 = k)
  | [], vs, r => by
    obtain rfl : vs = [] := r
    exact ⟨fun d h => by simp [valD] at h, fun _ => rfl, rfl⟩
  | (j, x) :: kvs, vs, ⟨v, r, e, h2, h3⟩ => by
    subst e
    obtain ⟨i1, i2, i3⟩ := val_rep (k := k) h3
    by_cases z : j = k
    · subst z
      refine ⟨fun d h => ?_, fun h => ?_, ?_⟩
      · have h : x = d := by simpa [valD] using h
        subst h
        exact ⟨v, by simp [valV], h2⟩
      · simp [valD] at h
      · simp
    · refine ⟨fun d h => ?_, fun h => ?_, ?_⟩
      · obtain ⟨w, a, b⟩ := i1 d (by simpa [valD, List.find?_cons, z] using h)
        exact ⟨w, by simpa [valV, List.find?_cons, z] using a, b⟩
      · have := i2 (by simpa [valD, List.find?_cons, z] using h)
        simpa [valV, List.find?_cons, z] using this
      · simp only [List.map_cons, List.zip_cons_cons, List.any_cons, decide_eq_false z, Bool.false_or]
        exact i3
theorem map_rep {k : Key} {d : D} {v : V} (rd : Rep K F H d v) : ∀ {kvs : List (Key × D)} {vs : List V}, RepL K F H (kvs.map (·.2)) vs →
    ∃ vs', ((kvs.map (·.1)).zip vs).map (fun kv => if kv.1 = k then (kv.1, v) else kv) = ((kvs.map (fun kv => if kv.1 = k then (kv.1, d) else kv)).map (·.1)).zip vs' ∧ RepL K F H ((kvs.map (fun kv => if kv.1 = k then (kv.1, d) else kv)).map (·.2)) vs'
  | [], vs, r => by
    obtain rfl : vs = [] := r
    exact ⟨[], rfl, rfl⟩
  | (j, x) :: kvs, vs, ⟨u, r, e, h2, h3⟩ => by
    subst e
    obtain ⟨vs', e1, e2⟩ := map_rep (k := k) rd h3
    by_cases z : j = k
    · subst z
      refine ⟨v :: vs', ?_, ?_⟩
      · simp only [List.map_cons, List.zip_cons_cons, if_true]
        rw [e1]
      · simp only [List.map_cons, if_true]
        exact .cons rd e2
    · refine ⟨u :: vs', ?_, ?_⟩
      · simp only [List.map_cons, List.zip_cons_cons, if_neg z]
        rw [e1]
      · simp only [List.map_cons, if_neg z]
        exact .cons h2 e2
theorem put_rep {k : Key} {d : D} {v : V} {kvs : List (Key × D)} {vs : List V} (rd : Rep K F H d v) (r : RepL K F H (kvs.map (·.2)) vs) :
    ∃ vs', putK ((kvs.map (·.1)).zip vs) k v = ((putKD kvs k d).map (·.1)).zip vs' ∧ RepL K F H ((putKD kvs k d).map (·.2)) vs' := by
  have h := (val_rep (k := k) r).2.2
  unfold putK putKD
  rw [h]
  by_cases z : (kvs.any fun kv => decide (kv.1 = k)) = true
  · rw [if_pos z, if_pos z]
    exact map_rep rd r
  · rw [if_neg z, if_neg z]
    refine ⟨vs ++ [v], ?_, ?_⟩
    · rw [List.map_append, List.zip_append (by rw [List.length_map, ← r.length, List.length_map])]; rfl
    · rw [List.map_append]
      exact r.append (.cons rd RepL.nil)
end
/-! ### {}, d[k], d.get(k, x), d[k] = v -/
def dDicN : DTE := fun _ μ q => ∀ p, μ p = none → q (.adr p) (updM μ p (.dic []))
/-- a dict, to be written or locked -/
def isDic (μ : Mu) (p : Addr) (kvs : List (Key × D)) : Prop := μ p = some (.dic kvs) ∨ ∃ u, μ p = some (.dkl u kvs)
theorem isDic.rd {O : Org} {K : PySem.W.Frag} {F : Zo} {H : Hp} {μ : Mu} {p : Addr} {kvs : List (Key × D)} (h : isDic μ p kvs) (hd : Hd K O F H μ) : ∃ vs, Rd H p (.dK ((kvs.map (·.1)).zip vs)) ∧ RepL K F H (kvs.map (·.2)) vs := by
  rcases h with h | ⟨u, h⟩
  · obtain ⟨_, vs, h1, h2⟩ := hd.own p _ h
    exact ⟨vs, .inl h1, h2⟩
  · obtain ⟨_, o, vs, h1, rfl, h2⟩ := hd.own p _ h
    exact ⟨vs, .inr ⟨o, h1⟩, h2⟩
def dDGet (to ti : DTE) : DTE := fun δ μ q => to δ μ fun x μ1 => ti δ μ1 fun y μ2 => match x, keyD y with
  | .adr p, some k => ∃ kvs d, isDic μ2 p kvs ∧ valD kvs k = some d ∧ q d μ2
  | _, _ => False
def dDGet2 (to ti tx : DTE) : DTE := fun δ μ q => to δ μ fun x μ1 => match x with
  | .adr p => (∃ kvs, isDic μ1 p kvs) ∧ ti δ μ1 fun y μ2 => tx δ μ2 fun z μ3 => ∃ k kvs, keyD y = some k ∧ isDic μ3 p kvs ∧ q ((valD kvs k).getD z) μ3
  | _ => False
def dsDPut (to ti tv : DTE) : DTS := fun E δ μ => tv δ μ fun v μ1 => to δ μ1 fun x μ2 => ti δ μ2 fun y μ3 => match x, keyD y with
  | .adr p, some k => ∃ kvs, μ3 p = some (.dic kvs) ∧ kvs.length < sizeLine ∧ E.nx δ (updM μ3 p (.dic (putKD kvs k v)))
  | _, _ => False
section
variable {O : Org} {X : Cx} {o i f value : Expr} {to ti tx tv : DTE} {pos pos' apos cpos : Pos}
theorem de_dicN : DE O X (.Dict [] [] pos) dDicN := pe_weak pe_dnewK fun σ H Q ⟨F, δ, μ, q, hd, rs, t, k⟩ => fun p hp =>
  k _ _ _ (.adr p) (.ref p) (ext_new hd hp) (hd.newM (m := .dic []) hp ⟨[], upd_same, RepL.nil⟩) rfl (t p (hd.free hp))
theorem de_dget (hu : X.A.units + 1 < cLine) (ho : DE O X o to) (hi : DE O X i ti) (hs : NoSl i := by intro _ _; rfl) : DE O X (.Subscript o i pos) (dDGet to ti) :=
  pe_weak (pe_dget hu ho hi hs) fun σ H Q ⟨F, δ, μ, q, hd, rs, t, k⟩ => ⟨F, δ, μ, _, hd, rs, t, fun F1 H1 μ1 x v e1 hd1 r1 t1 => ⟨F1, δ, μ1, _, hd1, rs.ext e1, t1, fun F2 H2 μ2 y u e2 hd2 r2 t2 => by
    cases x <;> first | exact False.elim t2 | skip
    rename_i p
    obtain rfl : v = .ref p := r1
    cases hk : keyD y with
    | none => rw [hk] at t2; exact False.elim t2
    | some key =>
      rw [hk] at t2
      obtain ⟨kvs, d, hm, hv, t2⟩ := t2
      obtain ⟨vs, h1, h2⟩ := hm.rd hd2
      obtain ⟨w, h3, h4⟩ := (val_rep (k := key) h2).1 d hv
      obtain rfl := rep_key hk r2
      exact ⟨p, w, rfl, .inl ⟨_, key, h1, rfl, h3.symm⟩, k F2 H2 μ2 d w (e1.trans e2) hd2 h4 t2⟩⟩⟩
theorem de_dget2 (hu : X.A.units + 1 < cLine) (ho : DE O X o to) (hi : DE O X i ti) (hx : DE O X f tx) (m : M2 X o "get" apos i f cpos := by first | exact ⟨rfl, rfl, rfl, rfl⟩ | exact ⟨by rfl, by decide, by rfl, by rfl⟩) :
    DE O X (.Call (.Attribute o "get" apos) [i, f] [] cpos) (dDGet2 to ti tx) :=
  pe_weak (pe_dget2 hu ho hi hx m) fun σ H Q ⟨F, δ, μ, q, hd, rs, t, k⟩ => ⟨F, δ, μ, _, hd, rs, t, fun F1 H1 μ1 x v e1 hd1 r1 t1 => by
    cases x <;> first | exact False.elim t1 | skip
    rename_i p
    obtain rfl : v = .ref p := r1
    obtain ⟨⟨kv0, hm0⟩, t1⟩ := t1
    obtain ⟨vs0, g1, g2⟩ := hm0.rd hd1
    refine ⟨p, rfl, .inl ⟨_, g1⟩, F1, δ, μ1, _, hd1, rs.ext e1, t1, fun F2 H2 μ2 y u e2 hd2 r2 t2 => ⟨F2, δ, μ2, _, hd2, (rs.ext e1).ext e2, t2, fun F3 H3 μ3 z w e3 hd3 r3 t3 => ?_⟩⟩
    obtain ⟨key, kvs, hk, hm, t3⟩ := t3
    obtain ⟨vs, h1, h2⟩ := hm.rd hd3
    obtain rfl := rep_key hk r2
    obtain ⟨i1, i2, _⟩ := val_rep (k := key) h2
    refine ⟨_, .inl ⟨_, key, h1, rfl, rfl⟩, ?_⟩
    have E := (e1.trans e2).trans e3
    cases hv : valD kvs key with
    | none =>
      rw [hv] at t3
      rw [i2 hv]
      exact k F3 H3 μ3 z w E hd3 r3 t3
    | some d =>
      rw [hv] at t3
      obtain ⟨x, a, b⟩ := i1 d hv
      rw [a]
      exact k F3 H3 μ3 d x E hd3 b t3⟩
theorem ds_dput (hu : X.A.units + 1 < cLine) (ho : DE O X o to) (hi : DE O X i ti) (hv : DE O X value tv) (hs : swapsWith value (some (.Subscript o i pos')) pos.line X.env = pure false := by rfl) :
    DSt O X (.Assign [.Subscript o i pos'] value pos) (dsDPut to ti tv) :=
  ps_weak (ps_dput hu ho hi hv hs) fun Z σ H ⟨F, δ, μ, E, hd, rs, t, L⟩ => ⟨F, δ, μ, _, hd, rs, t, fun F1 H1 μ1 d r e1 hd1 r1 t1 => ⟨F1, δ, μ1, _, hd1, rs.ext e1, t1, fun F2 H2 μ2 x v e2 hd2 r2 t2 => ⟨F2, δ, μ2, _, hd2, (rs.ext e1).ext e2, t2, fun F3 H3 μ3 y u e3 hd3 r3 t3 => by
    cases x <;> first | exact False.elim t3 | skip
    rename_i p
    obtain rfl : v = .ref p := r2
    cases hk : keyD y with
    | none => rw [hk] at t3; exact False.elim t3
    | some key =>
      rw [hk] at t3
      obtain ⟨kvs, hm, hl, t3⟩ := t3
      obtain ⟨_, vs, h1, h2⟩ := hd3.own p _ hm
      obtain rfl := rep_key hk r3
      have ll : ((kvs.map (·.1)).zip vs).length < sizeLine := by
        have := h2.length
        rw [List.length_map] at this
        rw [List.length_zip, List.length_map]; omega
      have ex := ext_set (o := HO.dK (putK ((kvs.map (·.1)).zip vs) key r)) hd3 hm
      obtain ⟨vs', p1, p2⟩ := put_rep (k := key) (((r1.ext e2).ext e3).ext ex) (h2.ext ex)
      refine ⟨p, _, rfl, DPut.k h1 ll, ?_⟩
      exact L.nx F3 _ _ δ σ (((e1.trans e2).trans e3).trans ex) (hd3.set (m' := .dic (putKD kvs key d)) hm ⟨vs', by rw [upd_same, p1], p2⟩) ((((rs.ext e1).ext e2).ext e3).ext ex) t3⟩⟩⟩
end
end DL

set_option Elab.async false
set_option linter.all false
set_option maxRecDepth 100000
set_option maxHeartbeats 2000000
/-! DZ: zip of two lists that stand -/
namespace DL
open PySem L2
def zipD (l m : List D) : List D := List.zipWith (fun x y => D.tup [x, y]) l m
theorem zipD_len (l m : List D) : (zipD l m).length = min l.length m.length := by simp [zipD]
theorem zipD_get {l m : List D} {i : Nat} {x y : D} (h : l[i]? = some x) (k : m[i]? = some y) : (zipD l m)[i]? = some (.tup [x, y]) := by
  simp [zipD, List.getElem?_zipWith, h, k]
section
variable {O : Org} {K : PySem.W.Frag} {F : Zo} {H : Hp}
theorem itok_zip {l m : List D} {a b : Addr} {vs ws : List V} (hl : RepL K F H l vs) (hm : RepL K F H m ws)
    (st : ∀ F2 H2 μ2, Ext F H F2 H2 → Hd K O F2 H2 μ2 → SqL K H2 a vs ∧ SqL K H2 b ws) : ItOk K O F H (zipD l m) (fun _ => True) (Itz K a b) := by
  have h1 := hl.length
  have h2 := hm.length
  refine ⟨fun i F2 H2 μ2 e hd _ h => ?_, fun i F2 H2 μ2 x H3 e hd _ h hy => ?_, fun i F2 H2 μ2 e hd _ h => ?_⟩
  · rw [zipD_len] at h
    obtain ⟨s1, s2⟩ := st F2 H2 μ2 e hd
    have g1 : i < vs.length := by omega
    have g2 : i < ws.length := by omega
    exact ⟨vs, ws, vs[i], ws[i], s1, s2, by simp [g1], by simp [g2]⟩
  · rw [zipD_len] at h
    obtain ⟨T, y, z, rfl, hT, rfl, hx, hz⟩ := hy
    obtain ⟨s1, s2⟩ := st F2 H2 μ2 e hd
    obtain ⟨d, e1, e2⟩ := (hl.ext e).get' (hx vs s1)
    obtain ⟨d', e3, e4⟩ := (hm.ext e).get' (hz ws s2)
    exact ⟨_, .tup [d, d'], ext_newF hd hT, hd.newF hT, zipD_get e1 e3, ⟨T, _, rfl, .inl ⟨.inr rfl, .inl upd_same⟩, .cons (e2.ext (ext_newF hd hT)) (.cons (e4.ext (ext_newF hd hT)) RepL.nil)⟩⟩
  · rw [zipD_len] at h
    obtain ⟨s1, s2⟩ := st F2 H2 μ2 e hd
    exact ⟨vs, ws, s1, s2, by omega⟩
end
/-- a list that stands -/
def frzL : D → Option (List D)
  | .lst l => some l
  | .rol l => some l
  | _ => none
theorem frz_sq {O : Org} {K : PySem.W.Frag} {F : Zo} {H : Hp} {d : D} {l : List D} {v : V} (h : frzL d = some l) (r : Rep K F H d v) :
    ∃ a us, v = .ref a ∧ SqL K H a us ∧ RepL K F H l us ∧ ∀ F2 H2, Ext F H F2 H2 → SqL K H2 a us := by
  cases d <;> first | (simp [frzL] at h; done) | skip
  · obtain rfl := Option.some.inj h
    obtain ⟨a, us, rfl, h2, h3⟩ := r
    exact ⟨a, us, rfl, SqL.of h2.2, h3, fun F2 H2 e => SqL.of ((e.hf h2.1).trans h2.2)⟩
  · obtain rfl := Option.some.inj h
    obtain ⟨a, us, rfl, h2, h3⟩ := r
    exact ⟨a, us, rfl, h2.sq, h3, fun F2 H2 e => (h2.ext e).sq⟩
def diZip (te : DTA) : DTI := fun δ μ q => te δ μ fun ds μ1 => match ds with
  | [x, y] => ∃ l m, frzL x = some l ∧ frzL y = some m ∧ q (zipD l m) (fun _ => True) μ1
  | _ => False
section
variable {O : Org} {X : Cx} {e e2 : Expr} {t : DTA} {pos p tpos : Pos} {elts : List Expr} {kk : Nat}
theorem di_zip (hg : Gl X "zip") (hm : X.mg "zip" = none) (ha : DA O X [e, e2] t)
    (hs : starEach [e, e2] X.env = (false, eval e X.env) :: starEach [e2] X.env := by rfl) (hpl : (backTo pos (starEach [e2] X.env)).any (·.1) = false := by rfl) :
    DI O X (.Tuple elts kk tpos) (.Call (.Name "zip" p) [e, e2] [] pos) (diZip t) :=
  pi_weak (pi_zip hg hm ha hs hpl) fun σ H R ⟨F, δ, μ, q, hd, rs, t, k⟩ => ⟨F, δ, μ, _, hd, rs, t, fun F1 H1 μ1 ds vs e1 hd1 r1 t1 => by
    unfold diZip at *
    match ds, t1, r1 with
    | [x, y], t1, r1 =>
      obtain ⟨u, v, rfl, h1, h2⟩ := repL2 r1
      obtain ⟨l, m, f1, f2, t1⟩ := t1
      obtain ⟨a, us, rfl, s1, r3, k1⟩ := frz_sq (O := O) f1 h1
      obtain ⟨b, ws, rfl, s2, r4, k2⟩ := frz_sq (O := O) f2 h2
      exact ⟨a, b, us, ws, rfl, s1, s2, k F1 H1 μ1 _ _ _ e1 hd1 (itok_zip r3 r4 fun F2 H2 μ2 e2 hd2 => ⟨k1 F2 H2 e2, k2 F2 H2 e2⟩) t1⟩⟩
end
theorem Ctx.u1 {O : Org} {X : Cx} {k : Nat} {e : DX} (C : Ctx O X k e) : X.A.units + 1 < cLine := by have := C.room.un; omega
/-! list(range(n)) -/
def dLstR1 (ta : DTE) : DTE := fun δ μ q => ta δ μ fun x μ1 => match x with
  | .int j => j.toNat ≤ 2 ^ 24 ∧ q (.lst (intsD 0 j.toNat)) μ1
  | _ => False
section
variable {O : Org} {X : Cx} {a : Expr} {ta : DTE} {p p2 pos pos2 : Pos}
theorem de_listRw1 (hc : X.calm = true) (hl : Gl X "list") (hml : X.mg "list" = none) (hg : Gl X "range") (hm : X.mg "range" = none) (ha : DE O X a ta)
    (na : starEach [a] X.env = (false, eval a X.env) :: starEach [] X.env := by rfl)
    (ne : starEach [Expr.Call (.Name "range" p2) [a] [] pos2] X.env = (false, eval (.Call (.Name "range" p2) [a] [] pos2) X.env) :: starEach [] X.env := by rfl) :
    DE O X (.Call (.Name "list" p) [.Call (.Name "range" p2) [a] [] pos2] [] pos) (dLstR1 ta) :=
  pe_weak (pe_listRgW hc hl hml (prg_1 hg hm ha na) ne) fun σ H Q ⟨F, δ, μ, q, hd, rs, t, k⟩ =>
  ⟨F, δ, μ, _, hd, rs, t, fun F1 H1 μ1 x v e1 hd1 r1 t1 => by
    unfold dLstR1 at *
    match x, t1, r1 with
    | .int j, ⟨ok, t1⟩, r1 =>
    obtain rfl : v = .int j := r1
    have e0 : (j - 0).toNat = j.toNat := by rw [Int.sub_zero]
    refine ⟨j, rfl, by rw [e0]; exact ok, fun q hq => k _ _ μ1 (.lst (intsD 0 j.toNat)) (.ref q) (e1.trans (ext_newF hd1 hq)) (hd1.newF hq) ⟨q, _, rfl, ⟨.inr rfl, upd_same⟩, ?_⟩ t1⟩
    have := rg_rep (K := X.K) (F := addF F1 q) (H := upd H1 q (.lst (rgV 0 j))) 0 j
    rwa [e0] at this⟩
end
end DL

set_option Elab.async false
set_option linter.all false
set_option maxRecDepth 100000
set_option maxHeartbeats 2000000
/-! DF: o.f as a target, within a tuple too -/
namespace L2
open PySem PySem.Spec PyProof.Rows
def gFld (K : PySem.W.Frag) (to : TE) (f : Str) : TG := fun v σ H Q => to σ H fun x H1 => ∃ a C dx fs, x = .ref a ∧ H1 a = some (.ins C dx fs) ∧ Cls K C ∧ NoAttr K C f ∧ fs.length < 1000 ∧ Q σ (upd H1 a (.ins C dx (putF f v fs)))
theorem pg_fld {X : Cx} {o : Expr} {to : TE} {f : Str} {pos : Pos} (ho : PE X o to)
    (ha : ∀ v, assign (.Attribute o f pos) X.env v = (do
      let ov ← holding [v] (eval o X.env)
      standAt pos.atName
      holding [v, ov] (setAttr ov f v)
      release [v, ov] []) := by intro _; rfl) : PG X (.Attribute o f pos) (gFld X.K to f) := by
  refine ⟨fun pins s σ H v u Q I r h => ?_⟩
  rw [ha]
  refine wpAny_bind (wpAny_holding (thn (ho.run pins s σ H _ I h) fun ov s1 ⟨x, H1, I1, rx, a, C, dx, fs, ex, ea, c, n, l, q⟩ => ?_))
  subst ex
  obtain rfl : ov = Value.ref a := rx
  refine wpAny_bind (wpAny_standAt (wpAny_bind (wpAny_holding ?_)))
  exact setattr_ok I1 ea c n l r fun s3 I3 => wpAny_release ⟨σ, _, I3, q⟩
end L2
namespace DL
open PySem L2
def dgFld (C : Addr) (f : Str) (to : DTE) : DTG := fun d δ μ q => to δ μ fun x μ1 => match x with
  | .adr p => ∃ ns l, μ1 p = some (.obj C ns l) ∧ ns.length < 1000 ∧ q δ (updM μ1 p (.obj C (putN f d ns l).1 (putN f d ns l).2))
  | _ => False
theorem dg_fld {O : Org} {X : Cx} {C : Addr} {f : Str} {o : Expr} {to : DTE} {pos : Pos} (c : Cls X.K C) (n : NoAttr X.K C f) (ho : DE O X o to)
    (ha : ∀ v, assign (.Attribute o f pos) X.env v = (do
      let ov ← holding [v] (eval o X.env)
      standAt pos.atName
      holding [v, ov] (setAttr ov f v)
      release [v, ov] []) := by intro _; rfl) : DGw O X (.Attribute o f pos) [] (dgFld C f to) :=
  pg_weak (pg_fld ho ha) fun v σ H Q ⟨F, d, δ, μ, q, hd, rs, r, t, k⟩ =>
    ⟨F, δ, μ, _, hd, rs, t, fun F1 H1 μ1 x vo e1 hd1 r1 t1 => by
      cases x <;> first | exact False.elim t1 | skip
      rename_i p
      obtain rfl : vo = .ref p := r1
      obtain ⟨ns, l, hm, hl, t1⟩ := t1
      obtain ⟨_, dx, vs, h1, h2, h3⟩ := hd1.own p _ hm
      have ex := ext_set (o := HO.ins C dx (putF f v (ns.zip vs))) hd1 hm
      obtain ⟨vs', p1, p2, p3⟩ := putN_rep (f := f) ((r.ext e1).ext ex) h2 (h3.ext ex)
      refine ⟨p, C, dx, _, rfl, h1, c, n, by rw [List.length_zip]; omega, ?_⟩
      exact k F1 _ _ δ σ (e1.trans ex) (hd1.set (m' := .obj C (putN f d ns l).1 (putN f d ns l).2) hm ⟨dx, vs', by rw [upd_same, p1], p2, p3⟩) ((rs.ext e1).ext ex) (Agr.refl _ _) t1⟩
end DL

set_option Elab.async false
set_option linter.all false
set_option maxRecDepth 100000
set_option maxHeartbeats 2000000
/-! DV: a, .., *rest = a tuple -/
namespace L2
open PySem PySem.Spec PyProof.Rows PySem.W
section
variable {prog : Program} {w : World} {A : Around} {E : Value → Shared → Prop} {s : Shared}
theorem walks_shift {I : Addr} {fp wr : List Addr} {G : Array GenState → Array GenState → Prop} {n : Nat} {P : Nat → Value → Prop} {St : Nat → Shared → Prop} (W : WalksS prog w A I fp wr G n P St) {k : Nat} (hk : k ≤ n) :
    WalksS prog w A I fp wr G (n - k) (fun i => P (k + i)) (fun i => St (k + i)) where
  sub := W.sub
  grefl := W.grefl
  gtrans := W.gtrans
  frame := fun i => W.frame (k + i)
  item := fun i s Q E hi st hQ => W.item (k + i) s Q E (by omega) st hQ
  done := fun s Q E st hQ => W.done s Q E (by have e : k + (n - k) = n := by omega
                                              rw [e] at st; exact st) hQ
  self := fun i => W.self (k + i)
theorem unpack_star {t : Addr} {items : Array Value} {n : Nat} {Q : List Value → Shared → Prop} (hh : A.handled = none) (ht : IsTup s.heap t items) (hle : n ≤ items.size) (hsz : items.size ≤ sizeLine)
    (hQ : ∀ (h' : Heap) (tk : Nat), (∀ b o, s.heap.get? b = some o → h'.get? b = some o) → Q (items.toList.take n ++ [.ref h'.objs.size]) { s with heap := h'.push { cls := .type "list", data := .seq (items.toList.drop n).toArray }, toks := tk }) :
    wpAny (model prog w) A (unpackItems (.ref t) (n + 1) (some n)) Q E s := by
  have hlt : t ≠ s.heap.objs.size := by obtain ⟨o, ho, _⟩ := ht; exact Nat.ne_of_lt (Heap.lt_size ho)
  unfold unpackItems
  refine wpAny_bind ?_
  unfold notIterableAtAll
  refine wpAny_bind (wpAny_specialOf ht.typeIs slot_tuple_iter.lookup ?_)
  refine wpAny_pure ?_
  simp only [Bool.false_eq_true, if_false]
  refine wpAny_bind (wpAny_holding (iter_tupleW hh ht fun s₂ e2 W st hfp hnew keep => ?_))
  subst e2
  refine wpAny_bind (wpAny_holding (draw_tuple hlt n 0 _ _ st.1 st.2 (by omega) fun h₁ hit₁ hs₁ => ?_))
  have hl : ((items.toList.drop 0).take n).length = n := by
    rw [List.drop_zero, List.length_take, Array.length_toList]; omega
  rw [if_neg (by rw [hl]; omega)]
  have W1 := walks_shift (Walks.tuple (prog := prog) (w := w) (A := A.in1) hh s.heap.objs.size t hlt items).toS hle
  have ht1 : h₁.IsTuple t items := st.2.extBut hs₁.extBut hlt
  rw [Nat.zero_add] at hit₁
  refine wpAny_bind (wpAny_holding (wpAny_collect_iter (T := "tuple_iterator") (.inr (.inr (.inr rfl))) W1 (fun i s' st' => ?_) ⟨by rw [Nat.add_zero]; exact hit₁, ht1⟩ (fun b hb => ?_) (by simp) (fun s' acc m its => ?_) (by omega)))
  · obtain ⟨o, e1, e2, _⟩ := st'.1
    exact ⟨o, e1, e2⟩
  · rcases List.mem_cons.mp hb with z | z
    · subst z
      obtain ⟨o, e1, _⟩ := hit₁
      exact Heap.lt_size e1
    · obtain rfl := List.mem_singleton.mp z
      obtain ⟨o, e1, _⟩ := ht1
      exact Heap.lt_size e1
  · have ea : acc.toList = items.toList.drop n := by
      refine List.ext_getElem? fun j => ?_
      rw [List.getElem?_drop, Array.getElem?_toList, Array.getElem?_toList]
      cases e : acc[j]? with
      | none =>
        have : acc.size ≤ j := by simpa using e
        rw [its.1] at this
        exact (Array.getElem?_eq_none (by omega)).symm
      | some v => exact (its.2 j v e).symm
    have es : s' = { s with heap := s'.heap, toks := s'.toks } := by
      have g1 := m.gens
      have g2 := m.drawn
      have g3 := m.os
      cases s'
      simp only at g1 g2 g3
      subst g1 g2 g3
      rfl
    have keep2 : ∀ b o, s.heap.get? b = some o → s'.heap.get? b = some o := fun b o e => by
      have nb : b ≠ s.heap.objs.size := Nat.ne_of_lt (Heap.lt_size e)
      refine m.heap b o (by simpa using nb) ?_
      exact hs₁.extBut b o nb (keep b o e)
    rw [ea]
    have e0 : n + 1 - 1 - n = 0 := by omega
    rw [e0, if_neg (by omega)]
    refine wpAny_bind (wpAny_newList ?_)
    have q := hQ s'.heap s'.toks keep2
    have e1 : (items.toList.drop n).length - 0 = (items.toList.drop n).length := Nat.sub_zero _
    rw [e1, List.take_length, List.drop_length, List.append_nil, List.drop_zero]
    rw [es]
    exact wpAny_pure q
end
section
variable {X : Cx} {e : Expr} {es : List Expr} {t : TG} {u : TGs} {p pos : Pos}
theorem pgs_star (h1 : PG X e t) (h2 : PGs X es u)
    (hs : (assignEach (.Starred e p :: es) X.env).map (·.2) = assign e X.env :: (assignEach es X.env).map (·.2) := by rfl) : PGs X (.Starred e p :: es) (gCons t u) := by
  refine ⟨fun pins s σ H vs us Q I r h => ?_⟩
  obtain ⟨v, vr, e1, h⟩ := h
  subst e1
  cases r with
  | cons r rr =>
    rw [hs]
    refine assignInOrder_cons (thn (h1.run pins s σ H _ _ _ I r h) fun _ s1 ⟨σ1, H1, I1, q1⟩ => ?_)
    exact h2.run pins s1 σ1 H1 _ _ Q I1 rr q1
/-- a, .., *rest = a tuple: n names, then the rest as a new list -/
def gStar (K : PySem.W.Frag) (n : Nat) (t : TGs) : TG := fun v σ H Q => ∃ a xs, v = .ref a ∧ SqT K H a xs ∧ n ≤ xs.length ∧ ∀ b, H b = none → t (xs.take n ++ [.ref b]) σ (upd H b (.lst (xs.drop n))) Q
theorem pg_star {k n : Nat} (hc : X.calm = true) (h : PGs X es u)
    (hn : (assignEach es X.env).length = n + 1 := by rfl) (hst : (assignEach es X.env).findIdx? (·.1) = some n := by rfl) : PG X (.Tuple es k pos) (gStar X.K n u) := by
  refine ⟨fun pins s σ H v u Q I r hw => ?_⟩
  obtain ⟨a, xs, e1, hq, hl, hw⟩ := hw
  subst e1
  cases r
  obtain ⟨its, rv, ht, hz⟩ := I.tuple hq
  have hlen := rv.length
  rw [PyProof.Rows.assign_Tuple]
  refine wpAny_bind (wpAny_standAt ?_)
  unfold unpack
  rw [hn, hst]
  refine wpAny_bind (wpAny_holding (unpack_star (I.ok.hd hc) ht (by simpa [← hlen] using hl) (by simpa [← hlen] using hz) fun h' tk keep => ?_))
  have gone : s.heap.get? h'.objs.size = none := by
    cases e : s.heap.get? h'.objs.size with
    | none => rfl
    | some o => exact absurd (Heap.lt_size (keep _ _ e)) (Nat.lt_irrefl _)
  have hn' : H h'.objs.size = none := I.hok.gone gone
  have keep2 : ∀ b o, s.heap.get? b = some o → (h'.push { cls := .type "list", data := .seq (its.drop n).toArray }).get? b = some o := fun b o e => Heap.get?_push_of_some _ (keep b o e)
  have new : ObjOk X.prog X.w (upd H h'.objs.size (.lst (xs.drop n))) (h'.push { cls := .type "list", data := .seq (its.drop n).toArray }) h'.objs.size (.lst (xs.drop n)) :=
    ⟨by rw [List.length_drop]; omega, its.drop n, 0, rv.drop n, Heap.get?_push_size _ rfl⟩
  have I1 := I.laidN (t' := tk) keep2 gone hn' new
  have e2 : its.toArray.toList = its := by simp
  rw [e2]
  exact h.run pins _ σ _ _ _ Q I1 ((rv.take n).append (.cons (show RelV (V.ref h'.objs.size) (Value.ref h'.objs.size) from rfl) .nil)) (hw _ hn')
end
end L2
namespace DL
open PySem L2
/-- a, .., *rest = a tuple that stands -/
def dgStar (n : Nat) (t : DTGs) : DTG := fun d δ μ q => match d with
  | .tup l => n ≤ l.length ∧ t (l.take n ++ [.lst (l.drop n)]) δ μ q
  | _ => False
section
variable {O : Org} {X : Cx} {pos p : Pos} {e : Expr} {es : List Expr} {ws us : List Nat} {t : DTG} {u : DTGs}
theorem dgs_star (h1 : DGw O X e ws t) (h2 : DGsw O X es us u) (hs : (assignEach (.Starred e p :: es) X.env).map (·.2) = assign e X.env :: (assignEach es X.env).map (·.2) := by rfl) : DGsw O X (.Starred e p :: es) (ws ++ us) (dgCons t u) :=
  pgs_weak (pgs_star h1 h2 hs) fun vs σ H Q ⟨F, ds, δ, μ, q, hd, rs, r, t, k⟩ => by
  cases ds with
  | nil => exact t.elim
  | cons d ds =>
    obtain ⟨v, vr, rfl, r1, r2⟩ := r
    refine ⟨v, vr, rfl, F, d, δ, μ, _, hd, rs, r1, t, fun F1 H1 μ1 δ1 σ1 e1 hd1 rs1 a1 t1 => ?_⟩
    exact ⟨F1, ds, δ1, μ1, q, hd1, rs1, r2.ext e1, t1, fun F2 H2 μ2 δ2 σ2 e2 hd2 rs2 a2 t2 =>
      k F2 H2 μ2 δ2 σ2 (e1.trans e2) hd2 rs2 ((a1.mono fun i hi => List.mem_append_left _ hi).trans (a2.mono fun i hi => List.mem_append_right _ hi)) t2⟩
theorem RepL.takeN {K : PySem.W.Frag} {F : Zo} {H : Hp} : ∀ {l : List D} {vs : List V} (n : Nat), RepL K F H l vs → RepL K F H (l.take n) (vs.take n)
  | [], vs, n, r => by
    obtain rfl : vs = [] := r
    rw [List.take_nil, List.take_nil]; exact RepL.nil
  | d :: l, vs, 0, r => RepL.nil
  | d :: l, vs, n + 1, ⟨v, r, e, h1, h2⟩ => by
    subst e
    exact .cons h1 (RepL.takeN n h2)
theorem RepL.dropN {K : PySem.W.Frag} {F : Zo} {H : Hp} : ∀ {l : List D} {vs : List V} (n : Nat), RepL K F H l vs → RepL K F H (l.drop n) (vs.drop n)
  | [], vs, n, r => by
    obtain rfl : vs = [] := r
    rw [List.drop_nil, List.drop_nil]; exact RepL.nil
  | d :: l, vs, 0, r => r
  | d :: l, vs, n + 1, ⟨v, r, e, h1, h2⟩ => by
    subst e
    exact RepL.dropN n h2
theorem dg_star {n : Nat} {k0 : Nat} (hc : X.calm = true) (h : DGsw O X es us u) (hn : (assignEach es X.env).length = n + 1 := by rfl) (hst : (assignEach es X.env).findIdx? (·.1) = some n := by rfl) : DGw O X (.Tuple es k0 pos) us (dgStar n u) :=
  pg_weak (pg_star hc h hn hst) fun v σ H Q ⟨F, d, δ, μ, q, hd, rs, r, t, k⟩ => by
    unfold dgStar at t
    split at t
    · rename_i l
      obtain ⟨a, vs, rfl, h1, h2⟩ := r
      refine ⟨a, vs, rfl, h1.sq, by rw [← h2.length]; exact t.1, fun b hb => ?_⟩
      have ex := ext_newF (o := HO.lst (vs.drop n)) hd hb
      refine ⟨_, l.take n ++ [.lst (l.drop n)], δ, μ, q, hd.newF hb, rs.ext ex, ((h2.takeN n).ext ex).append (RepL.cons (show Rep X.K (addF F b) _ (.lst (l.drop n)) (.ref b) from ⟨b, _, rfl, ⟨.inr rfl, upd_same⟩, (h2.dropN n).ext ex⟩) RepL.nil), t.2, fun F2 H2 μ2 δ2 σ2 e2 => k F2 H2 μ2 δ2 σ2 (ex.trans e2)⟩
    · exact t.elim
end
/-- a tuple of whole numbers that the module's top has made -/
theorem de_gtup {O : Org} {X : Cx} {x : Str} {ns : List Int} {pos : Pos} (hg : Gl X x) (hm : ∃ a, X.mg x = some (.ref a) ∧ ∀ F H, Rep X.K F H (.tup (ns.map D.int)) (.ref a)) (hd : (x == ("__debug__" : Str)) = false := by decide) : DE O X (.Name x pos) (dC (.tup (ns.map D.int))) := by
  obtain ⟨a, hm, hr⟩ := hm
  exact de_of_c (pe_glob (v := .ref a) hg hm rfl hd) fun F H => hr F H
end DL

set_option Elab.async false
set_option linter.all false
set_option maxRecDepth 100000
/-! DQ: math.isqrt, xs[::-1] -/
namespace L2
open PySem PySem.Spec PyProof.Rows
def rIsq : List V → Hp → VK → Prop := fun vs H Q => ∃ a : Int, vs = [.int a] ∧ 0 ≤ a ∧ a < 2 ^ 64 ∧ Q (.int ((Float64.isqrt a.toNat : Nat) : Int)) H
theorem cr_isq {X : Cx} : CallR X (.builtin "math.isqrt") rIsq := by
  intro pins s σ H vs us Q I r h
  obtain ⟨a, rfl, h0, h1, q⟩ := h
  cases r with
  | cons r rr =>
    cases rr
    obtain ⟨t, rfl⟩ := r
    exact PySem.W.mg_isqrt h0 h1 ⟨.int _, H, I.tok _, ⟨_, rfl⟩, q⟩
end L2
namespace DL
open PySem L2 PySem.Spec PyProof.Rows
def rIsqD : DC2 := fun ds μ q => match ds with | [.int a] => 0 ≤ a ∧ a < 2 ^ 64 ∧ q (.int ((Float64.isqrt a.toNat : Nat) : Int)) μ | _ => False
theorem cd_isq {K : PySem.W.Frag} : CallD K rIsq rIsqD := by
  intro O F H μ ds vs q Q hd rs t k
  unfold rIsqD at t
  split at t
  · rename_i i
    obtain ⟨v, rfl, h1⟩ := repL1 rs
    obtain rfl : v = .int i := h1
    exact ⟨i, rfl, t.1, t.2.1, k F H μ _ _ (Ext.refl F H) hd rep_int t.2.2⟩
  · exact t.elim
theorem RepL.reverse {K : PySem.W.Frag} {F : Zo} {H : Hp} : ∀ {l : List D} {vs : List V}, RepL K F H l vs → RepL K F H l.reverse vs.reverse
  | [], vs, h => by
    have h : vs = [] := h
    subst h; exact RepL.nil
  | d :: l, _, ⟨v, r, h1, h2, h3⟩ => by
    subst h1
    rw [List.reverse_cons, List.reverse_cons]
    exact (RepL.reverse h3).append (.cons h2 RepL.nil)
def dRevL (te : DTE) : DTE := fun δ μ q => te δ μ fun d μ1 => match lstOf μ1 d with | some l => q (.lst l.reverse) μ1 | none => False
theorem de_revL {O : Org} {X : Cx} {e : Expr} {te : DTE} {k : Nat} {p1 p2 p3 pos : Pos} (he : DE O X e te) : DE O X (.Subscript e (.Slice none none (some (.UnaryOp .USub (.Constant (.int 1) k p1) p2)) p3) pos) (dRevL te) :=
  pe_weak (pe_revL he) fun σ H Q ⟨F, δ, μ, q, hd, rs, t, k⟩ => ⟨F, δ, μ, _, hd, rs, t, fun F1 H1 μ1 d v e1 hd1 r1 t1 => by
    split at t1
    · rename_i l e0
      obtain ⟨a, vs, rfl, h1, h2⟩ := list_sq hd1 r1 e0
      exact ⟨a, vs, rfl, h1, fun p hp => k _ _ μ1 (.lst l.reverse) (.ref p) (e1.trans (ext_newF hd1 hp)) (hd1.newF hp) ⟨p, vs.reverse, rfl, ⟨.inr rfl, upd_same⟩, h2.reverse.ext (ext_newF hd1 hp)⟩ t1⟩
    · exact t1.elim⟩
end DL

set_option Elab.async false
set_option linter.all false
set_option maxRecDepth 100000
set_option maxHeartbeats 1000000
/-! DN: == and != by an own __eq__; isinstance; methods without arguments -/
namespace L2
open PySem PySem.Spec PyProof.Rows
section
variable {prog : Program} {w : World} {A : Around} {E : Value → Shared → Prop} {s : Shared} {K : PySem.W.Frag} {x C f : Addr} {ox : Obj} {od : Option Obj} {b : Value}
theorem ne_K {Q : Value → Shared → Prop} (hu : A.units + 1 < cLine) (X : K.In s.heap) (I : PySem.W.InstAt s.heap x ox C od) (hb : PySem.W.Looks (model prog w) s.heap (typeOf b) (.ref C))
    (hn : PySem.W.findIn K (.ref C) "__ne__" = some (some (.builtin "object.__ne__"))) (hm : PySem.W.mroIn K C (.type "object") = some true) (he : PySem.W.findIn K (.ref C) "__eq__" = some (some (.ref f))) (hf : PySem.W.isFn K (.ref f) = true)
    (h : wpAny (model prog w) A.in1 (call (.ref f) [.ref x, b]) (fun v s' => ∃ r, v = .bool r ∧ Q (.bool (!r)) s') E s) : wpAny (model prog w) A (richCompare .NotEq (.ref x) b) Q E s := by
  have hi : PySem.W.Looks (model prog w) s.heap (isInstance (.ref x) (.type "object")) true := I.type.andThen (PySem.W.looks_mroIn X hm)
  have body : ∀ {Q' : Fin → Shared → Prop}, (∀ r s', Q (.bool (!r)) s' → Q' (.done (.ret (.bool (!r)))) s') → wpAny (model prog w) A.in1 (Builtin.«object.__ne__» ⟨[.ref x, b], []⟩) Q' E s := fun {Q'} k => by
    unfold Builtin.«object.__ne__»
    repeat (first
      | with_reducible refine wpAny_cRoomFor (show A.in1.units < cLine from hu) ?_
      | (refine wpAny_bind (m := callSpecialIfBound? (.ref x) (Str.ofString "__eq__") [b])
          (PySem.W.ifBound_K X I he hf (wpAny_mono h (fun r s' hr => by
            obtain ⟨b, rfl, hq⟩ := hr
            have hq := k b s' hq
            repeat (first | exact hq | exact wpAny_pure hq | exact wpAny_truthy_bool hq | (refine wpAny_bind (m := truthy (.bool _)) (wpAny_truthy_bool ?_)) | wp_step)) fun _ _ e => e)))
      | wp_step)
  have one : wpAny (model prog w) A (tryCompare (.ref x) "__ne__" b) (fun r s' => ∃ v, r = some v ∧ Q v s') E s := by
    unfold tryCompare
    refine wpAny_bind ?_
    simp only [callSpecialIfBound?, bindSpecialIfBound?]
    refine wpAny_holding (wpAny_bind (wpAny_bind (wpAny_bind (I.type.here ((PySem.W.looks_findIn X hn).here ?_)))))
    simp only [F.cmp_object.ne.bind]
    refine wpAny_bind (wpAny_askSetting (wpAny_ite ?_))
    have fin : ∀ {Qx : Option Value → Shared → Prop}, (∀ r s', Q (.bool (!r)) s' → Qx (some (.bool (!r))) s') → wpAny (model prog w) A (call (.builtin "object.__ne__") ([.ref x] ++ [b]) >>= fun v => pure (some v)) Qx E s := fun {Qx} k => by
      refine wpAny_bind (wpAny_call (codeAny_call_builtin F.cmp_object.ne.plain F.cmpEntry_ne (PySem.W.check_slot F.cmpKind_ne F.cmpSplit_ne hi (F.cmpArgs_ne _ _) (body fun r s' q => ?_))))
      exact wpAny_pure (k r s' q)
    split
    · exact wpAny_bind (wpAny_pure (wpAny_pure (fin fun r s' q => wpAny_pure ⟨_, rfl, q⟩)))
    · exact wpAny_tryCatch (wpAny_bind (wpAny_pure (wpAny_pure (fin fun r s' q => wpAny_pure ⟨_, rfl, q⟩))))
  unfold richCompare
  simp only [oneThing_ref]
  refine wpAny_holding (wpAny_bind (wpAny_cRoomFor (Nat.lt_of_succ_lt hu) ?_))
  rw [cmpInfo_NotEq]
  dsimp only
  refine wpAny_bind (I.type.here (wpAny_bind (hb.here ?_)))
  rw [show (Value.ref C != Value.ref C) = false from by simp]
  simp only [Bool.false_eq_true, if_false]
  refine wpAny_bind (wpAny_pure ?_)
  simp only [Bool.false_eq_true, if_false]
  refine wpAny_bind (wpAny_mono one (fun r s' z => ?_) fun _ _ e => e)
  obtain ⟨v, rfl, hq⟩ := z
  exact wpAny_pure hq
end
end L2

set_option Elab.async false
set_option linter.all false
set_option maxRecDepth 100000
set_option maxHeartbeats 1000000
namespace DL
open PySem L2 PySem.Spec PyProof.Rows
section
variable {X : Cx} {k : Nat} {C : Addr} {ps : List Str} {c : DSp}
/-- x == y by an own __eq__ -/
def rEqOwn (K : PySem.W.Frag) (C : Addr) (c : DSp) (g : Bool → Bool) : R2 := fun x y H Q => ∃ a b dx dy fs gs, x = .ref a ∧ y = .ref b ∧ H a = some (.ins C dx fs) ∧ H b = some (.ins C dy gs) ∧ LSp K c [.ref a, .ref b] H (fun v H' => ∃ r, v = .bl r ∧ Q (.bl (g r)) H') fun _ _ _ => False
theorem run_eqOwn {A : Around} {pins : List (Addr × Obj)} {σ : L2.St} {H : Hp} {s : Shared} {a b : Addr} {Q : Bool → Hp → Prop} {f : Addr} {fd : FuncData} (F : FnG X.prog X.w X.K X.mg X.base k f fd ps (LSp X.K c)) (hb : Binds X.K fd ps []) (hr : Room k A) (hgd : A.guards = some []) (e0 : Env0 X.prog X.w X.K X.mg X.base A X.stack s H)
    (I : Inv X pins σ H s) (q : LSp X.K c [.ref a, .ref b] H (fun v H' => ∃ r, v = .bl r ∧ Q r H') fun _ _ _ => False) {E' : Value → Shared → Prop} :
    wpAny (model X.prog X.w) A (call (.ref f) [.ref a, .ref b]) (fun v s' => ∃ r H', v = .bool r ∧ Inv X pins σ H' s' ∧ Q r H') E' s := by
  have hl : ([Value.ref a, Value.ref b] ++ []).length = ps.length := F.len _ _ _ _ q
  refine wpAny_call (codeAny_mono (F.run A X.stack s H ⟨[.ref a, .ref b], []⟩ [.ref a, .ref b] [.ref a, .ref b] _ _ hr hgd e0 (hb _ [.ref a, .ref b] I.kIn hl) (.cons rfl (.cons rfl .nil)) q) ?_)
  intro res s2 end2
  match res, end2 with
  | .error er, end2 =>
    obtain ⟨a, B, H', cls, d, _, _, _, _, _, _, _, z⟩ := end2
    exact z.elim
  | .ok (.ret u), end2 =>
    obtain ⟨v, H', I3, rv, r, rfl, q3⟩ := I.after end2
    cases (show u = Value.bool r from rv)
    exact ⟨r, H', rfl, I3, q3⟩
theorem op_eqOwn (h : Mm X.prog X.w X.K X.mg X.base C "__eq__" k ps c) (hr : Room (k + 1) X.A) (hgd : X.A.guards = some []) : OpR X (compareOp .Eq) (rEqOwn X.K C c id) := by
  intro pins s σ H x y v u Q I rx ry hq
  obtain ⟨f, fd, hm, F, hb⟩ := h.ex
  obtain ⟨a, b, dx, dy, fs, gs, rfl, rfl, ha, hb', q⟩ := hq
  cases rx
  cases ry
  obtain ⟨mA, J, _⟩ := ins_get I.hok ha
  obtain ⟨mB, J', _⟩ := ins_get I.hok hb'
  obtain ⟨od, J, _⟩ := J.look
  obtain ⟨od', J', _⟩ := J'.look
  obtain ⟨m, hF⟩ := I.fr
  show wpAny (model X.prog X.w) X.A (richCompare .Eq (.ref a) (.ref b)) (EP X pins σ Q) X.xe s
  refine PySem.W.cmp_K (op := .Eq) (tb := .ref C) hr.units0 hF I.ok.mod.kin J J'.type (by simp [PySem.W.notFirst]) hm.at_ hm.fn ?_
  refine wpAny_mono (run_eqOwn F hb (hr.mono (Nat.le_succ k)) hgd I.env0 I q) (fun v s' hv => ?_) fun _ _ e => e
  obtain ⟨r, H', rfl, I3, q3⟩ := hv
  exact ⟨.bl r, H', I3, rfl, q3⟩
/-- object.__ne__ stands -/
structure NeOk (K : PySem.W.Frag) (C : Addr) : Prop where
  ne : PySem.W.findIn K (.ref C) "__ne__" = some (some (.builtin "object.__ne__"))
  ob : PySem.W.mroIn K C (.type "object") = some true
theorem op_neOwn (n : NeOk X.K C) (h : Mm X.prog X.w X.K X.mg X.base C "__eq__" k ps c) (hr : Room (k + 1) X.A) (hgd : X.A.guards = some []) : OpR X (compareOp .NotEq) (rEqOwn X.K C c not) := by
  intro pins s σ H x y v u Q I rx ry hq
  obtain ⟨f, fd, hm, F, hb⟩ := h.ex
  obtain ⟨a, b, dx, dy, fs, gs, rfl, rfl, ha, hb', q⟩ := hq
  cases rx
  cases ry
  obtain ⟨mA, J, _⟩ := ins_get I.hok ha
  obtain ⟨mB, J', _⟩ := ins_get I.hok hb'
  obtain ⟨od, J, _⟩ := J.look
  obtain ⟨od', J', _⟩ := J'.look
  show wpAny (model X.prog X.w) X.A (richCompare .NotEq (.ref a) (.ref b)) (EP X pins σ Q) X.xe s
  refine ne_K (by have := hr.un; omega) I.kIn J J'.type n.ne n.ob hm.at_ hm.fn ?_
  refine wpAny_mono (run_eqOwn (A := X.A.in1) F hb hr.in1 hgd I.env0.in1 I q) (fun v s' hv => ?_) fun _ _ e => e
  obtain ⟨r, H', rfl, I3, q3⟩ := hv
  exact ⟨r, rfl, .bl (!r), H', I3, rfl, q3⟩
def rEqZ (C : Addr) (c : DSp) (g : Bool → Bool) : DR2 := fun x y μ q => match x, y with
  | .ins C1 n1 l1, .ins C2 n2 l2 => C1 = C ∧ C2 = C ∧ c [.ins C1 n1 l1, .ins C2 n2 l2] μ (fun d μ' => ∃ r, d = .bl r ∧ q (.bl (g r)) μ') eN
  | _, _ => False
theorem od_eqZ {K : PySem.W.Frag} {g : Bool → Bool} : OpD K (rEqOwn K C c g) (rEqZ C c g) := by
  intro O F H μ x y v w q Q hd rx ry t k
  cases x <;> cases y <;> first | exact False.elim t | skip
  obtain ⟨rfl, rfl, t⟩ := t
  obtain ⟨a, dx, vs, rfl, ⟨_, h1⟩, h5⟩ := id rx
  obtain ⟨b, dy, ws, rfl, ⟨_, h2⟩, h6⟩ := id ry
  refine ⟨a, b, dx, dy, _, _, rfl, rfl, h1, h2, F, μ, _, _, eN, hd.here, .cons rx (.cons ry RepL.nil), t, fun F2 H2 μ2 d v hd2 r2 ⟨r, ed, q2⟩ => ?_, fun cls dd H' ⟨C, b, v, d, F', μ', h1, h2, h3, h4, h5, h6⟩ => h6.elim⟩
  subst ed
  cases (show v = V.bl r from r2)
  obtain ⟨p1, p2⟩ := hd.back hd2
  exact ⟨r, rfl, k F2 H2 μ2 _ _ p2 p1 rep_bl q2⟩
end
theorem kit_self {K : PySem.W.Frag} {C : Addr} : PySem.W.kitOne K (.ref C) (.ref C) = some true := by
  show (if (Value.ref C == Value.ref C) = true then some true else _) = some true
  rw [if_pos (by simp)]
/-! names of classes -/
theorem de_typ {O : Org} {X : Cx} {x : Str} {T : String} {pos : Pos} (hg : Gl X x) (hm : X.mg x = none) (hv : bootBuiltins x = some (.type T)) (hn : x ≠ "__name__" := by decide) (hdb : (x == ("__debug__" : Str)) = false := by decide) : DE O X (.Name x pos) (dC (.typ T)) :=
  de_of_c (v := .ty T) ⟨fun pins s σ H Q I h => ld_blt I hg hm hv ⟨.ty T, H, I, rfl, h⟩ hn hdb⟩ fun _ _ => rfl
theorem de_cls {O : Org} {X : Cx} {x : Str} {C : Addr} {pos : Pos} (hg : Gl X x) (hm : X.mg x = some (.ref C)) (hdb : (x == ("__debug__" : Str)) = false := by decide) : DE O X (.Name x pos) (dC (.adr C)) :=
  de_of_c (v := .ref C) (pe_glob hg hm rfl hdb) fun _ _ => rfl
/-! isinstance -/
def isStrD : D → Option Bool
  | .str _ => some true
  | .int _ => some false
  | .tup _ => some false
  | .non => some false
  | .bl _ => some false
  | _ => none
def rIsStrD : DC2 := fun ds μ q => match ds with
  | [x, .typ t] => t = "str" ∧ ∃ b, isStrD x = some b ∧ q (.bl b) μ
  | _ => False
theorem cd_isStr {K : PySem.W.Frag} : CallD K (rIsi K) rIsStrD := by
  intro O F H μ ds vs q Q hd rs t k
  unfold rIsStrD at t
  split at t
  · rename_i x tn
    obtain ⟨rfl, b, hb, t⟩ := t
    obtain ⟨v, w, rfl, h1, h2⟩ := repL2 rs
    cases (show w = V.ty "str" from h2)
    have done : ∀ tt, TyX K H v tt → PySem.W.kitOne K tt (.type "str") = some b → rIsi K [v, .ty "str"] H Q := fun tt ty e => ⟨v, .ty "str", tt, .type "str", b, rfl, .ty "str", ty, e, k F H μ _ _ (Ext.refl F H) hd rep_bl t⟩
    cases x <;> simp only [isStrD] at hb <;> try cases hb
    · cases (show v = V.non from h1)
      exact done _ (.base .non) (kit_ty (by decide +kernel))
    · rename_i y
      cases (show v = V.bl y from h1)
      exact done _ (.base (.bl y)) (kit_ty (by decide +kernel))
    · rename_i y
      cases (show v = V.int y from h1)
      exact done _ (.base (.int y)) (kit_ty (by decide +kernel))
    · rename_i y
      cases (show v = V.str y from h1)
      exact done _ (.base (.str y)) (kit_ty (by decide +kernel))
    · obtain ⟨a, us, rfl, hz, _⟩ := h1
      have e : PySem.W.kitOne K (.type "tuple") (.type "str") = some false := kit_ty (by decide +kernel)
      rcases hz with ⟨_, hz | ⟨o, hz⟩⟩ | hz
      · exact done _ (.base (.tup hz)) e
      · exact done _ (.fTuple hz) e
      · rcases hz (fun _ => none) with hz | ⟨o, its, n, h3, h4, _⟩
        · rcases hz with hz | ⟨o, hz⟩ <;> cases hz
        · exact done _ (.kTuple h3 h4) e
  · exact t.elim
def rIsOwnD (C : Addr) : DC2 := fun ds μ q => match ds with | [.ins C' _ _, .adr c] => C' = C ∧ c = C ∧ q (.bl true) μ | _ => False
theorem cd_isOwn {K : PySem.W.Frag} {C : Addr} : CallD K (fun xs H Q => ∃ a dx fs, xs = [.ref a, .ref C] ∧ H a = some (.ins C dx fs) ∧ Q (.bl true) H) (rIsOwnD C) := by
  intro O F H μ ds vs q Q hd rs t k
  unfold rIsOwnD at t
  split at t
  · obtain ⟨rfl, rfl, t⟩ := t
    obtain ⟨v, w, rfl, h1, h2⟩ := repL2 rs
    obtain ⟨a, dx, us, rfl, ⟨_, h3⟩, _⟩ := h1
    cases h2
    exact ⟨a, dx, _, rfl, h3, k F H μ _ _ (Ext.refl F H) hd rep_bl t⟩
  · exact t.elim
end DL

set_option Elab.async false
set_option linter.all false
set_option maxRecDepth 100000
set_option maxHeartbeats 2000000
/-! DSC: {e for x in xs} of whole numbers, its length -/
namespace L2
open PySem PySem.Spec PyProof.Rows PpSet
/-- one number more -/
def oneMore (S : Int → Bool) (k : Int) : Int → Bool := fun j => S j || decide (j = k)
def upN (S : Int → Bool) (k : Int) (n : Nat) : Nat := if S k = true then n else n + 1
def noneI : Int → Bool := fun _ => false
/-- the reading of such a comprehension; A the set -/
def tSetI (w : World) (ti : TI) (g : TG) (tc : TT) (ty : TE) (vs : List Nat) : TE := fun σ H Q => ti σ H fun J G => ∀ A, G A = none → ∃ P : Nat → Nat → Hp → Prop, (∃ m, P 0 m (upd G A (SetO w A noneI 0))) ∧ ∀ i m G, P i m G →
  (J.stop i G ∧ Q (.ref A) G) ∨ (J.go i G ∧ ∃ Z : Hp → Prop, (∀ G', Z G' → ∃ m', m' < m ∧ P (i + 1) m' G') ∧ ∀ x G', J.yld i G x G' → g x (wipe σ vs) G' fun τ G2 => wipe τ vs = wipe σ vs ∧ tc τ G2 fun b G3 =>
    if b = true then ty τ G3 fun y G4 => ∃ k S n, y = .int k ∧ G4 A = some (SetO w A S n) ∧ n + 1 < scanBound ∧ Z (upd G4 A (SetO w A (oneMore S k) (upN S k n))) else Z G3)
section
variable {X : Cx} {elt tg iter : Expr} {ifs : List Expr} {scope : Scope} {own : List (PySem.Str × Nat)} {pos : Pos} {ti : TI} {g : TG} {tc : TT} {ty : TE}
/-- the new object, an empty set -/
abbrev eSet (w : World) : Obj := { cls := .type "set", dict := none, data := .set #[] 0 (.fresh 0 0 (!w.params.followText "set-order")) }
theorem put_set {pins : List (Addr × Obj)} {σ : L2.St} {H : Hp} {s : Shared} (I : Inv X pins σ H s) : Inv X pins σ (upd H s.heap.objs.size (SetO X.w s.heap.objs.size noneI 0)) { s with heap := s.heap.push (eSet X.w) } :=
  I.laid (t' := s.toks) (fun b o e => Heap.get?_push_of_some _ e) (Nat.le_refl _) (setO_new (setR_fresh X.w))
theorem pe_setI (calm : X.calm = true) (nd : X.N.Nodup) (it_ : PI X tg iter ti) (blk : BlkOk X.N X.env.scope scope own)
    (tg_ : ∀ (s : Shared) (H : Hp) (C : Addr) (cl : List (PySem.Str × Addr)) (fp : List Addr), PG (X.blk s H scope (compEnvC scope cl C X.env) fp) tg g)
    (tst : ∀ (s : Shared) (H : Hp) (C : Addr) (cl : List (PySem.Str × Addr)) (fp : List Addr), PTs (X.blk s H scope (compEnvC scope cl C X.env) fp) ifs tc)
    (val : ∀ (s : Shared) (H : Hp) (C : Addr) (cl : List (PySem.Str × Addr)) (fp : List Addr), PE (X.blk s H scope (compEnvC scope cl C X.env) fp) elt ty)
    (fold : ∀ x, foldedSetIterable iter X.env x = pure x) : PE X (.SetComp elt [⟨tg, iter, ifs, 0⟩] scope pos) (tSetI X.w ti g tc ty (own.map (·.2))) := by
  constructor
  intro pins s σ H Q inv start
  rw [eval_SetComp]
  have cellsThere : ∀ y ∈ scope.names, y.2 = .free → ∃ c, X.env.cells.lookup y.1 = some c := by
    intro y hy e
    exact (blk.free y hy e).elim (fun k => inv.ok.has _ (.inl k)) fun k => inv.ok.has _ (.inr k)
  refine wpAny_comprehension_free (use := none) rfl fold (closure_ok cellsThere) blk.kind (fun y hy e => by rw [blk.uniq y hy, e]) (thn (it_.run pins s σ H _ inv start) fun xv sA hA => thn hA fun itv sB hB => ?_)
  obtain ⟨walk, fp, tn, J, G, rfl, invB, turns, stB, okB, rest⟩ := hB
  refine newSet_ok (newEnv_comp ?_)
  have fresh : G sB.heap.objs.size = none := invB.hok.fresh (Nat.le_refl _)
  obtain ⟨P, ⟨m0, p0⟩, step⟩ := rest sB.heap.objs.size fresh
  have invC := put_set invB
  generalize eA : sB.heap.objs.size = A at fresh p0 step invC ⊢
  generalize eC : ({ sB with heap := sB.heap.push (eSet X.w) } : Shared) = sC at invC
  have hpC : sC.heap = sB.heap.push (eSet X.w) := by rw [← eC]
  generalize eG : upd G A (SetO X.w A noneI 0) = GC at invC p0
  have okC : ∀ b ∈ fp, FpOk X pins GC b ∧ b < sC.heap.objs.size := by
    intro b hb
    obtain ⟨o, ho, _⟩ := turns.obj _ _ stB b hb
    have lt : b < sB.heap.objs.size := Heap.lt_size ho
    refine ⟨⟨?_, (okB b hb).2⟩, ?_⟩
    · rw [← eG, upd_ne (Nat.ne_of_lt (eA ▸ lt))]
      exact (okB b hb).1
    · rw [hpC, Heap.size_push]; exact Nat.lt_succ_of_lt lt
  have stC : tn 0 sC.heap := turns.keep _ _ _ stB fun b _ o e => by rw [hpC]; exact Heap.get?_push_of_some _ e
  have invD := block_start invC blk nd okC
  have dTg := tg_ sC GC sC.heap.objs.size (cellsFrom (sC.heap.objs.size + 1) scope.names (cloFrom X.env.cells scope.names [])) fp
  have dTst := tst sC GC sC.heap.objs.size (cellsFrom (sC.heap.objs.size + 1) scope.names (cloFrom X.env.cells scope.names [])) fp
  have dVal := val sC GC sC.heap.objs.size (cellsFrom (sC.heap.objs.size + 1) scope.names (cloFrom X.env.cells scope.names [])) fp
  have goal : codeAny (model X.prog X.w) X.A (.compStart (.SetComp elt [⟨tg, iter, ifs, 0⟩] scope pos) 0 (.ref walk) (.ref A) (compEnvC scope (cellsFrom (sC.heap.objs.size + 1) scope.names (cloFrom X.env.cells scope.names [])) sC.heap.objs.size X.env))
      (compPost (model X.prog X.w) X.A X.xe none (EP X pins σ Q) (.ref A) sC.heap.objs.size) { sC with heap := pushCells (sC.heap.push { cls := .type "dict", data := .dict #[] }) scope.names } := by
    have none_ : ∀ b ∈ fp, GC b = none := fun b hb => (okC b hb).1.1
    generalize eE : compEnvC scope (cellsFrom (sC.heap.objs.size + 1) scope.names (cloFrom X.env.cells scope.names [])) sC.heap.objs.size X.env = env at invD dTg dTst dVal ⊢
    have locE : env.locals = sC.heap.objs.size := by rw [← eE]; rfl
    generalize eD : ({ sC with heap := pushCells (sC.heap.push { cls := .type "dict", data := .dict #[] }) scope.names } : Shared) = sD at invD ⊢
    have stD : tn 0 sD.heap := turns.keep _ _ _ stC fun b _ o e => by rw [← eD]; exact pushCells_keeps _ _ _ _ (Heap.get?_push_of_some _ e)
    have still : ∀ {τ : L2.St} {G' : Hp} {s' : Shared}, Inv (X.blk sC GC scope env fp) [] τ G' s' → (∀ b ∈ fp, G' b = none) → ∀ b ∈ fp, FpOk (X.blk sC GC scope env fp) [] G' b := by
      intro τ G' s' inv' hn b hb
      exact ⟨hn b hb, (inv'.ok.exf b hb).1, inv'.ok.exfs b hb, .inl hb, fun x c e => (inv'.ok.exf b hb).2 x c e, fun p hp => absurd (show p ∈ ([] : List (Addr × Obj)) ++ [] from hp) (by simp)⟩
    refine codeAny_compStart_set (?loop) (turns.self X.A 0 _ _ _ stD ?loop)
    refine compLoopS_any (fun n s' => ∃ i G', Inv (X.blk sC GC scope env fp) [] (wipe σ (own.map (·.2))) G' s' ∧ tn i s'.heap ∧ (∀ b ∈ fp, G' b = none) ∧ P i n G') ?_ m0 ⟨0, GC, invD, stD, none_, p0⟩
    rintro n s5 ⟨i, G5, inv5, st5, none5, p5⟩
    rcases step i n G5 p5 with ⟨stop, qq⟩ | ⟨go, Z, hZ, turn⟩
    · refine thnF (turns.done (X.blk sC GC scope env fp) rfl rfl rfl calm i [] s5 _ G5 (fun _ _ => False) inv5 (still inv5 none5) st5 stop) ?_
      rintro r s6 ⟨rfl, inv6⟩
      have invO : Inv X pins σ G5 s6 := invC.call' (ch := fp) inv6.os inv6.base inv6.hok inv6.bare fun b hb => ⟨(okC b hb).1.2.2.2.1, (okC b hb).1.2.1, (okC b hb).1.2.2.2.2.1, (okC b hb).1.2.2.2.2.2⟩
      have away : G5 sC.heap.objs.size = none := by
        have z : G5 env.locals = none := inv6.free
        rwa [locE] at z
      obtain ⟨mm, hns, _⟩ := inv6.loc
      have hns : s6.heap.Ns env.locals mm := hns
      rw [locE] at hns
      obtain ⟨f0, f1, f2, f3, f4, f5⟩ := invC.fpOk (Nat.le_refl _) away
      exact ⟨mm, hns, fun h'' sb => ⟨.ref A, G5, invO.turned (t' := s6.toks) (fun b o hb e => (sb.2 b hb).trans e) f0 f1 f3 f4 f5, rfl, qq⟩⟩
    · refine thnF (turns.item (X.blk sC GC scope env fp) rfl rfl rfl calm i [] s5 _ G5 (fun _ _ => False) inv5 (still inv5 none5) st5 go) ?_
      rintro r s6 ⟨u, rfl, h6⟩
      refine thnF h6 ?_
      rintro _ s7 ⟨x, G7, inv7, r7, y7, st7, none7⟩
      have pinned := inv7.pinned (still inv7 none7) (turns.obj _ _ st7)
      refine thnF (dTg.run _ s7 _ G7 x u _ pinned r7 (turn x G7 y7)) ?_
      rintro _ s8 ⟨τ8, G8, inv8, hw8, q8⟩
      refine thnF (dTst.run _ s8 τ8 G8 _ inv8 q8) ?_
      rintro b s9 ⟨G9, inv9, q9⟩
      have close : ∀ {s' : Shared} {G' : Hp}, Inv (X.blk sC GC scope env fp) ([] ++ pinsAt fp s7.heap) τ8 G' s' → Z G' → ∃ m, m < n ∧ ∃ i G', Inv (X.blk sC GC scope env fp) [] (wipe σ (own.map (·.2))) G' s' ∧ tn i s'.heap ∧ (∀ b ∈ fp, G' b = none) ∧ P i m G' := by
        intro s' G' inv' z
        obtain ⟨m', lt, p'⟩ := hZ G' z
        have at_ : ∀ b ∈ fp, ∀ o, s7.heap.get? b = some o → s'.heap.get? b = some o ∧ G' b = none := fun b hb o e =>
          ⟨(inv'.pin (b, o) (List.mem_append_right _ (List.mem_append_right _ (mem_pinsAt hb e)))).1, (inv'.pin (b, o) (List.mem_append_right _ (List.mem_append_right _ (mem_pinsAt hb e)))).2.1⟩
        refine ⟨m', lt, i + 1, G', (inv'.unpinned (pins := [])).weak (by rw [← hw8, wipe_length]) (fun j v e => (wipe_some (hw8 ▸ e)).1), turns.keep _ _ _ st7 fun b hb o e => (at_ b hb o e).1, fun b hb => ?_, p'⟩
        obtain ⟨o, e, _⟩ := turns.obj _ _ st7 b hb
        exact (at_ b hb o e).2
      cases b with
      | false => exact close inv9 (by simpa using q9)
      | true =>
        simp only [if_true] at q9 ⊢
        refine thnF (dVal.run _ s9 τ8 G9 _ inv9 q9) ?_
        rintro z s10 ⟨yv, G10, inv10, r10, k, S, n0, rfl, hA10, room, nx⟩
        refine thnF (mt_sadd _ s10 τ8 G10 (.ref A) [.int k] (.ref A) [z] (fun _ G' => Z G') inv10 rfl (.cons r10 .nil) ⟨A, k, S, n0, rfl, rfl, hA10, room, nx⟩) ?_
        rintro v s11 ⟨_, G11, inv11, _, z11⟩
        exact close inv11 z11
  exact goal
/-- len of such a set -/
theorem call_lenSet {X : Cx} : CallR X (.builtin "len") (fun xs H Q => ∃ a S n, xs = [V.ref a] ∧ H a = some (SetO X.w a S n) ∧ Q (.int (n : Nat)) H) := by
  intro pins s σ H xs us Q I r h
  obtain ⟨a, S, n, rfl, ha, q⟩ := h
  obtain ⟨u, rfl, rx⟩ := vals1 r
  obtain rfl : u = Value.ref a := rx
  obtain ⟨o, es, ep, t, ho, hex, hd, _, _, _, small, hf, hn, _⟩ := setO_get I ha
  have sm : es.size < 2 ^ 63 := by unfold scanBound at small; omega
  refine call_len_set ho hex hd hf (by exact_mod_cast sm) ?_
  exact ⟨.int (n : Nat), H, I.tok _, ⟨_, by rw [hn]⟩, q⟩
end
end L2

set_option Elab.async false
set_option linter.all false
set_option maxRecDepth 100000
set_option maxHeartbeats 2000000
namespace DL
open PySem L2 PySem.Spec PyProof.Rows
/-- len({e for x in xs ..}), whole numbers -/
def dSetN (ti : DTI) (g : DTG) (tt : DTT) (te : DTE) (vs : List Nat) : DTE := fun δ μ q => ti δ μ fun items keep μ1 => ∃ P : Nat → List Int → Mu → Prop, P 0 [] μ1 ∧ (∀ i l μ, i ≤ items.length → P i l μ → keep μ ∧ l.length + 1 < 4096) ∧
  (∀ i d l μ, items[i]? = some d → P i l μ → g d (wipeD δ vs) μ fun δ2 μ2 => tt δ2 μ2 fun b μ3 => if b = true then te δ2 μ3 fun y μ4 => ∃ k, y = .int k ∧ P (i + 1) (l ++ [k]) μ4 else P (i + 1) l μ3) ∧
  ∀ l μ, P items.length l μ → ∀ out : List Int, out.Nodup → (∀ k, k ∈ out ↔ k ∈ l) → q (.int (out.length : Nat)) μ
/-- what such a set has: the members of a list -/
structure SetOf (S : Int → Bool) (n : Nat) (l : List Int) : Prop where
  ex : ∃ out : List Int, out.Nodup ∧ (∀ k, k ∈ out ↔ k ∈ l) ∧ out.length = n
  mem : ∀ k, S k = true ↔ k ∈ l
theorem SetOf.nil : SetOf noneI 0 [] := ⟨⟨[], .nil, fun _ => Iff.rfl, rfl⟩, fun k => by simp [noneI]⟩
theorem SetOf.snoc {S : Int → Bool} {n : Nat} {l : List Int} (h : SetOf S n l) (k : Int) : SetOf (oneMore S k) (upN S k n) (l ++ [k]) := by
  obtain ⟨⟨out, nd, hm, hn⟩, mem⟩ := h
  refine ⟨?_, fun j => ?_⟩
  · unfold upN
    by_cases hS : S k = true
    · rw [if_pos hS]
      refine ⟨out, nd, fun j => ?_, hn⟩
      rw [List.mem_append, hm j]
      constructor
      · exact .inl
      · rintro (h | h)
        · exact h
        · rw [List.mem_singleton.mp h]; exact (mem k).mp hS
    · rw [if_neg hS]
      refine ⟨out ++ [k], ?_, fun j => ?_, by simp [hn]⟩
      · rw [List.nodup_append]
        refine ⟨nd, by simp, fun x hx y hy e => ?_⟩
        rw [List.mem_singleton.mp hy] at e
        exact hS ((mem k).mpr ((hm k).mp (e ▸ hx)))
      · rw [List.mem_append, List.mem_append, hm j]
  · unfold oneMore
    rw [Bool.or_eq_true, decide_eq_true_eq, mem j, List.mem_append, List.mem_singleton]
theorem nodup_le : ∀ {l m : List Int}, l.Nodup → (∀ x ∈ l, x ∈ m) → l.length ≤ m.length
  | [], m, _, _ => Nat.zero_le _
  | a :: l, m, nd, s => by
    obtain ⟨n1, n2⟩ := List.nodup_cons.mp nd
    have ha := s a List.mem_cons_self
    have : l.length ≤ (m.erase a).length := nodup_le n2 fun x hx => by
      have hne : x ≠ a := fun z => n1 (z ▸ hx)
      exact (List.mem_erase_of_ne hne).mpr (s x (List.mem_cons_of_mem _ hx))
    rw [List.length_erase_of_mem ha] at this
    have : 0 < m.length := List.length_pos_of_mem ha
    rw [List.length_cons]; omega
theorem SetOf.le {S : Int → Bool} {n : Nat} {l : List Int} (h : SetOf S n l) : n ≤ l.length := by
  obtain ⟨⟨out, nd, hm, hn⟩, _⟩ := h
  rw [← hn]
  exact nodup_le nd fun x hx => (hm x).mp hx
section
variable {O : Org} {X : Cx}
theorem lsetI {K : PySem.W.Frag} {w : World} {ti : DTI} {g : DTG} {tt : DTT} {te : DTE} {ws vs : List Nat} (hw : ∀ i ∈ ws, i ∈ vs) : ∀ σ H Q, LE K O (dSetN ti g tt te vs) σ H Q →
    tSetI w (LI K O ti) (LGw K O ws g) (LT K O tt) (LE K O te) vs σ H (fun x G => ∃ a S n, x = V.ref a ∧ G a = some (SetO w a S n) ∧ Q (.int (n : Nat)) G) := fun σ H Q ⟨F, δ, μ, q, hd, rs, t, k⟩ =>
  ⟨F, δ, μ, _, hd, rs, t, fun F1 H1 μ1 items keep J e1 hd1 ok ⟨P, p0, pk, step, fin⟩ => by
    intro A hA
    have nG : ¬ F1.G A := hd1.nf hA
    refine ⟨fun i m H' => m = items.length - i ∧ i ≤ items.length ∧ ∃ F2 l S n μ2, Ext F1 H1 F2 H' ∧ Hd K O F2 H' μ2 ∧ ¬ F2.G A ∧ μ2 A = none ∧ H' A = some (SetO w A S n) ∧ SetOf S n l ∧ P i l μ2, ⟨_, rfl, Nat.zero_le _, F1, [], noneI, 0, μ1, ext_new hd1 hA, ⟨hd1.org.trans (ext_new hd1 hA), fun a f => ?_, fun a m e => ?_⟩, nG, hd1.free hA, upd_same, .nil, p0⟩, ?_⟩
    · have z : a ≠ A := fun z => nG (z ▸ f)
      rw [upd_ne z]; exact hd1.fr a f
    · have z : a ≠ A := fun z => by rw [z, hd1.free hA] at e; cases e
      exact ⟨(hd1.own a m e).1, (hd1.own a m e).2.ext (ext_new hd1 hA) (upd_ne z)⟩
    rintro i m H2 ⟨rfl, hi, F2, l, S, n, μ2, e2, hd2, nA, mA, hA2, so, p2⟩
    obtain ⟨kk, hsz⟩ := pk i l μ2 hi p2
    by_cases hlt : i < items.length
    · refine .inr ⟨ok.go i F2 H2 μ2 e2 hd2 kk hlt, fun H' => ∃ F2 l S n μ2, Ext F1 H1 F2 H' ∧ Hd K O F2 H' μ2 ∧ ¬ F2.G A ∧ μ2 A = none ∧ H' A = some (SetO w A S n) ∧ SetOf S n l ∧ P (i + 1) l μ2, fun H' q => ⟨_, by omega, rfl, hlt, q⟩, fun x H3 hy => ?_⟩
      have ep : Ext F2 H2 (addG F2 A) H2 := ⟨fun _ f => f, fun _ f => .inl f, fun _ _ => rfl, fun _ _ f => f⟩
      have hdp : Hd K O (addG F2 A) H2 μ2 := by
        refine ⟨hd2.org.trans ep, fun a f => f.elim (hd2.fr a) fun z => by rw [z, hA2]; simp, fun a m e => ?_⟩
        have z : a ≠ A := fun z => by rw [z, mA] at e; cases e
        exact ⟨fun f => f.elim (hd2.own a m e).1 z, (hd2.own a m e).2.ext ep rfl⟩
      obtain ⟨F3, d, e3, hd3, hd', r3⟩ := ok.yld i (addG F2 A) H2 μ2 x H3 (e2.trans ep) hdp kk hlt hy
      have e03 := (e1.trans (e2.trans ep)).trans e3
      refine ⟨F3, d, wipeD δ vs, μ2, _, hd3, (rs.wipe vs).ext e03, r3, step i d l μ2 hd' p2, fun F4 H4 μ4 δ4 σ4 e4 hd4 rs4 a4 t4 => ⟨(wipe_agr (a4.mono hw)).trans (wipe_wipe σ vs), F4, δ4, μ4, _, hd4, rs4, t4, fun F5 H5 μ5 b e5 hd5 t5 => ?_⟩⟩
      have e25 : Ext (addG F2 A) H2 F5 H5 := (e3.trans e4).trans e5
      have shut : ∀ F6 H6 μ6, Ext (addG F2 A) H2 F6 H6 → Hd K O F6 H6 μ6 → ∀ (l' : List Int) (S' : Int → Bool) (n' : Nat), SetOf S' n' l' → P (i + 1) l' μ6 →
          ∃ F7 l7 S7 n7 μ7, Ext F1 H1 F7 (upd H6 A (SetO w A S' n')) ∧ Hd K O F7 (upd H6 A (SetO w A S' n')) μ7 ∧ ¬ F7.G A ∧ μ7 A = none ∧ (upd H6 A (SetO w A S' n')) A = some (SetO w A S7 n7) ∧ SetOf S7 n7 l7 ∧ P (i + 1) l7 μ7 := by
        intro F6 H6 μ6 e6 hd6 l' S' n' so' p'
        have nf : ¬ F6.F A := fun f => nA (F2.sub A (e6.o A (.inr rfl) f))
        have mA6 : μ6 A = none := by
          cases e : μ6 A with
          | none => rfl
          | some m => exact absurd (e6.g A (.inr rfl)) (hd6.own A m e).1
        have le : Le F6 H6 (remG F6 A nf) (upd H6 A (SetO w A S' n')) := ⟨fun _ f => f, fun {a} f => upd_ne fun z => nf (z ▸ f)⟩
        have ex1 : Ext F1 H1 (remG F6 A nf) (upd H6 A (SetO w A S' n')) := ⟨fun a f => e6.f a (e2.f a f), fun a f => ⟨e6.g a (.inl (e2.g a f)), fun z => nG (z ▸ f)⟩, fun a f => by
          have z : a ≠ A := fun z => nG (z ▸ f)
          rw [upd_ne z, e6.h a (.inl (e2.g a f)), e2.h a f], fun a f k => e2.o a f (e6.o a (.inl (e2.g a f)) k)⟩
        refine ⟨remG F6 A nf, l', S', n', μ6, ex1, ⟨hd1.org.trans ex1, fun a f => ?_, fun a m e => ?_⟩, fun f => f.2 rfl, mA6, upd_same, so', p'⟩
        · rw [upd_ne f.2]; exact hd6.fr a f.1
        · have z : a ≠ A := fun z => by rw [z, mA6] at e; cases e
          exact ⟨fun f => (hd6.own a m e).1 f.1, (hd6.own a m e).2.mv le (upd_ne z)⟩
      cases b with
      | true =>
        rw [if_pos rfl] at t5
        dsimp only
        rw [if_pos rfl]
        refine ⟨F5, δ4, μ5, _, hd5, rs4.ext e5, t5, fun F6 H6 μ6 y v e6 hd6 r6 ⟨kv, ey, t6⟩ => ?_⟩
        subst ey
        have e26 := e25.trans e6
        have sm := so.le
        exact ⟨kv, S, n, r6, (e26.h A (.inr rfl)).trans hA2, by unfold scanBound; omega, shut F6 H6 μ6 e26 hd6 (l ++ [kv]) _ _ (so.snoc kv) t6⟩
      | false =>
        rw [if_neg Bool.false_ne_true] at t5
        dsimp only
        rw [if_neg Bool.false_ne_true]
        have c := shut F5 H5 μ5 e25 hd5 l S n so t5
        have eu : upd H5 A (SetO w A S n) = H5 := by
          funext b
          unfold upd
          split
          · rename_i e; rw [e, (e25.h A (.inr rfl)).trans hA2]
          · rfl
        rw [eu] at c
        exact c
    · have e : i = items.length := by omega
      subst e
      obtain ⟨⟨out, nd, hm, hn⟩, _⟩ := so
      refine .inl ⟨ok.stop _ F2 H2 μ2 e2 hd2 kk (Nat.le_refl _), A, S, n, rfl, hA2, ?_⟩
      have := fin l μ2 p2 out nd hm
      rw [hn] at this
      exact k F2 H2 μ2 (.int (n : Nat)) _ (e1.trans e2) hd2 rep_int this⟩
theorem de_lenSetC {elt tg iter : Expr} {ifs : List Expr} {scope : Scope} {own : List (PySem.Str × Nat)} {p pos pos2 : Pos} {ti : DTI} {g : DTG} {tt : DTT} {te : DTE} {ws : List Nat} (hgl : Gl X "len") (hml : X.mg "len" = none) (hc : X.calm = true) (hN : X.N.Nodup) (hi : DI O X tg iter ti) (ok : BlkOk X.N X.env.scope scope own) (hw : ∀ i ∈ ws, i ∈ own.map (·.2))
    (hg : ∀ (s : Shared) (H : Hp) (C : Addr) (cl : List (PySem.Str × Addr)) (fp : List Addr), DGw O (X.blk s H scope (compEnvC scope cl C X.env) fp) tg ws g) (ht : ∀ (s : Shared) (H : Hp) (C : Addr) (cl : List (PySem.Str × Addr)) (fp : List Addr), DTs O (X.blk s H scope (compEnvC scope cl C X.env) fp) ifs tt)
    (he : ∀ (s : Shared) (H : Hp) (C : Addr) (cl : List (PySem.Str × Addr)) (fp : List Addr), DE O (X.blk s H scope (compEnvC scope cl C X.env) fp) elt te) (hs : ∀ x, foldedSetIterable iter X.env x = pure x := by intro _; rfl)
    (na : starEach [Expr.SetComp elt [⟨tg, iter, ifs, 0⟩] scope pos] X.env = (false, eval (.SetComp elt [⟨tg, iter, ifs, 0⟩] scope pos) X.env) :: starEach [] X.env := by rfl) (hpl : (backTo pos2 (starEach [] X.env)).any (·.1) = false := by rfl) :
    DE O X (.Call (.Name "len" p) [.SetComp elt [⟨tg, iter, ifs, 0⟩] scope pos] [] pos2) (dSetN ti g tt te (own.map (·.2))) :=
  pe_weak (pe_callB call_lenSet hgl hml PySem.boot_len (pa_cons (pe_setI hc hN hi ok hg ht he hs) pa_nil na) (by decide) (by decide) na hpl) fun σ H Q h => by
    have k := lsetI (w := X.w) hw σ H Q h
    unfold tSetI at k
    show LI X.K O ti σ H _
    obtain ⟨F, δ, μ, q, hd, rs, t, kk⟩ := k
    refine ⟨F, δ, μ, q, hd, rs, t, fun F' H' μ' items keep J e1 hd1 ok1 q1 A hA => ?_⟩
    obtain ⟨P, p0, st⟩ := kk F' H' μ' items keep J e1 hd1 ok1 q1 A hA
    refine ⟨P, p0, fun i m G pG => ?_⟩
    rcases st i m G pG with ⟨s1, a, S, n, ea, hS, qq⟩ | s2
    · cases ea
      exact .inl ⟨s1, A, S, n, rfl, hS, qq⟩
    · exact .inr s2
end
end DL

set_option Elab.async false
set_option linter.all false
set_option maxRecDepth 100000
set_option maxHeartbeats 2000000
namespace L2
open PySem PySem.Spec PyProof.Rows
theorem call_set_listI {P : Program} {w : World} {A : Around} {E : Value → Shared → Prop} {s : Shared} {l : Addr} {items : Array Value} (ns : List Int) {Q : Value → Shared → Prop} (hh : A.handled = none) (hl : s.heap.IsList l items) (hit : IntsAre items.toList ns) (hb : ns.length + 1 < scanBound)
    (h : ∀ (h' : Heap) (tk c : Nat), SetR w h' s.heap.objs.size (fun j => decide (j ∈ ns)) c → c ≤ ns.length → (∀ b o, s.heap.get? b = some o → h'.get? b = some o) → Q (.ref s.heap.objs.size) { heap := h', gens := s.gens, drawn := s.drawn, toks := tk, os := s.os }) :
    wpAny (model P w) A (call (.type "set") [.ref l]) Q E s := by
  have hisz : items.size = ns.length := by have q := hit.length; rwa [Array.length_toList] at q
  obtain ⟨c, tl, hmro⟩ := F.called_set.mro
  have hmade := F.called_set.made
  have hsub := F.called_set.sub
  refine wpAny_call (codeAny_of_tree ?_)
  refine wpAny_pure ⟨Code.quiet_builtin _ (by decide +kernel), codeAny_builtin F.entry_type_call ?_⟩
  rw [Around.under_plain (weight_type_call_type "set" [.ref l] []) rfl]
  have hct := F.typeCall_set_1 (.ref l)
  unfold Builtin.«type.__call__»
  dsimp only
  refine wpAny_ite_false rfl ?_
  refine wpAny_ite_false rfl ?_
  refine wpAny_bind (wpAny_of_eq hct ?_)
  refine wpAny_bind (wpAny_of_eq hmro ?_)
  refine wpAny_ite_false rfl ?_
  refine wpAny_bind (wpAny_of_eq hmade ?_)
  refine wpAny_bind (wpAny_pure ?_)
  refine wpAny_bind (wpAny_holding ?_)
  refine wpAny_call (codeAny_mono (code_set_led1 (E := E) (Q₁ := fun v s' => v = .ref s.heap.objs.size ∧ s' = { heap := s.heap.push { cls := .type "set", data := .set #[] 0 (SetTable.fresh 0 0 !w.params.followText "set-order") }, gens := s.gens, drawn := s.drawn, toks := s.toks, os := s.os }) (.ref l) ⟨rfl, rfl⟩) fun r s₁ hr => ?_)
  rcases r with e | fl
  · exact hr
  rcases fl with _ | _ | _ | v
  · exact hr.elim
  · exact hr.elim
  · exact hr.elim
  obtain ⟨rfl, rfl⟩ := hr
  dsimp only
  have hS := Heap.get?_push_size s.heap (o := { cls := .type "set", data := .set #[] 0 (SetTable.fresh 0 0 !w.params.followText "set-order") }) rfl
  generalize hso : ({ cls := .type "set", data := .set #[] 0 (SetTable.fresh 0 0 !w.params.followText "set-order") } : Obj) = so at hS ⊢
  have hcls : so.cls = .type "set" := by rw [← hso]
  have hdat : so.data = .set #[] 0 (SetTable.fresh 0 0 !w.params.followText "set-order") := by rw [← hso]
  have hT : ({ heap := s.heap.push so, gens := s.gens, drawn := s.drawn, toks := s.toks, os := s.os } : Shared).TypeIs (.ref s.heap.objs.size) "set" := ⟨so, hS, hcls⟩
  have hli := F.called_set.init.lookup
  have hbi := F.called_set.init.bind (.ref s.heap.objs.size)
  refine wpAny_bind (wpAny_isInstance hT hsub ?_)
  refine wpAny_ite_false rfl ?_
  refine wpAny_bind (wpAny_holding ?_)
  unfold callSpecial?
  refine wpAny_bind (wpAny_specialOf hT hli ?_)
  refine wpAny_holding (wpAny_bind (wpAny_of_eq hbi ?_))
  dsimp only
  refine wpAny_bind ?_
  refine wpAny_call (codeAny_mono (codeAny_call_builtin (R := fun r s' => r = .ok (.ret .none) ∧ ∃ (h' : Heap) (tk c' : Nat), s' = { heap := h', gens := s.gens, drawn := s.drawn, toks := tk, os := s.os } ∧ SetR w h' s.heap.objs.size (fun j => decide (j ∈ ns)) c' ∧ c' ≤ ns.length ∧ ∀ b o, s.heap.get? b = some o → h'.get? b = some o) F.called_set.init.plain F.entry_set_init (check_set_init_1 hT ?_)) fun r₂ s₂ hr₂ => ?_)
  rotate_left
  · obtain ⟨rfl, h', tk, c', rfl, h1, h2, h3⟩ := hr₂
    dsimp only
    refine wpAny_pure ?_
    dsimp only
    refine wpAny_ite_false rfl ?_
    exact wpAny_pure (h h' tk c' h1 h2 h3)
  unfold Builtin.«set.__init__»
  dsimp only
  obtain ⟨ol, hol, hcl, nl, hdl⟩ := hl
  have hol' := Heap.get?_push_of_some so hol
  have hsls := F.sub_list_set
  have hslf := F.sub_list_frozenset
  have hl1 : (s.heap.push so).IsList l items := ⟨ol, hol', hcl, nl, hdl⟩
  have hne : l ≠ s.heap.objs.size := Nat.ne_of_lt (Heap.lt_size hol)
  unfold noKeywords
  refine wpAny_bind (wpAny_ite_true rfl (wpAny_pure ?_))
  dsimp only [List.cons_append, List.nil_append]
  refine wpAny_bind ?_
  unfold typeNameOfCut
  refine wpAny_bind ?_
  unfold shownTypeOf
  refine wpAny_bind (wpAny_typeOf hT ?_)
  refine wpAny_ite_false rfl ?_
  refine wpAny_pure ?_
  unfold typeNameCut
  dsimp only
  unfold typeName
  dsimp only
  refine wpAny_pure ?_
  refine wpAny_bind ?_
  unfold checkCount
  refine wpAny_ite_false rfl (wpAny_ite_false rfl (wpAny_ite_false rfl (wpAny_pure ?_)))
  refine wpAny_bind ?_
  unfold Builtin.Frozenset.addrOf
  refine wpAny_pure ?_
  refine wpAny_bind ?_
  unfold setUsed
  refine wpAny_bind ?_
  unfold setState
  refine wpAny_bind (wpAny_load' hS ?_)
  rw [hdat]
  dsimp only
  refine wpAny_ite_false rfl ?_
  refine wpAny_pure ?_
  refine wpAny_pure ?_
  refine wpAny_ite_false rfl ?_
  refine wpAny_bind ?_
  unfold Builtin.Frozenset.updateFrom
  refine wpAny_bind ?_
  unfold Builtin.Frozenset.isAnySet
  have hTl : ({ heap := s.heap.push so, gens := s.gens, drawn := s.drawn, toks := s.toks, os := s.os } : Shared).TypeIs (.ref l) "list" := ⟨ol, hol', hcl⟩
  unfold orM
  refine wpAny_bind (wpAny_isInstance hTl hsls ?_)
  dsimp only [toBool]
  refine wpAny_isInstance hTl hslf ?_
  refine wpAny_ite_false rfl ?_
  refine wpAny_bind (wpAny_typeOf hTl ?_)
  refine wpAny_ite_false rfl ?_
  refine wpAny_bind (wpAny_pyIter_list hl1 ?_)
  refine wpAny_bind (wpAny_runValue ?_)
  have hz1 := Heap.size_push s.heap so
  have hneI : l ≠ (s.heap.push so).objs.size := by rw [hz1]; exact Nat.ne_of_lt (Nat.lt_succ_of_lt (Heap.lt_size hol))
  have hSI : ¬ s.heap.objs.size ∈ [(s.heap.push so).objs.size, l] := by
    rw [List.mem_cons, List.mem_singleton, hz1]
    rintro (z | z)
    · exact absurd z (Nat.ne_of_lt (Nat.lt_succ_self _))
    · exact hne z.symm
  have hh3 : A.in1.in1.in1.handled = none := hh
  have hP : ∀ (i : Nat) (v : Value), items[i]? = some v → ∃ k t, ns[i]? = some k ∧ v = .int k t := fun i v hv => by
    have hi : i < ns.length := by rw [← hisz]; exact (Array.getElem?_eq_some_iff.mp hv).1
    obtain ⟨t, e⟩ := IntsAre.int_at hit i v (by rw [Array.getElem?_toList]; exact hv)
    exact ⟨ns[i], t, List.getElem?_eq_getElem hi, by rw [e, List.getD_eq_getElem?_getD, List.getElem?_eq_getElem hi]; rfl⟩
  have hget := Heap.get?_push_of_some { cls := .type "list_iterator", data := .fields #[.ref l, .int 0 0] } hS
  refine set_update_ints (Walks.toS (Walks.list hh3 ((s.heap.push so).objs.size) l hneI items)) s.heap.objs.size hSI ns hisz hb hP items.size 0 _ (by omega) (Nat.zero_le _) ⟨?_, ?_⟩ ⟨0, Nat.le_refl 0, ?_⟩ fun s' c' hm hc hS' => ?_
  · exact ⟨_, Heap.get?_push_size _ rfl, rfl, rfl⟩
  · exact hl1.push _
  · subst hso
    exact setR_new_at hget
  · obtain ⟨h', g', d', tk', os'⟩ := s'
    have eg := hm.gens
    have ed := hm.drawn
    have eo := hm.os
    dsimp only at eg ed eo
    subst eg ed eo
    dsimp only
    refine wpAny_pure ?_
    refine wpAny_pure ?_
    refine ⟨rfl, h', tk', c', rfl, hS', by omega, fun b o e => ?_⟩
    refine hm.heap b o ?_ (Heap.get?_push_of_some _ (Heap.get?_push_of_some so e))
    rw [List.mem_cons, List.mem_singleton, hz1]
    have := Heap.lt_size e
    rintro (z | z)
    · exact absurd z (Nat.ne_of_lt this)
    · exact absurd z (Nat.ne_of_lt (Nat.lt_succ_of_lt this))
/-- set(xs), whole numbers -/
def rSetOf (K : PySem.W.Frag) (w : World) : List V → Hp → VK → Prop := fun xs H Q => ∃ l ns, xs = [.ref l] ∧ SqL K H l (List.map V.int ns) ∧ ns.length < 4000 ∧ ∀ A S n, H A = none → (∀ k, S k = true ↔ k ∈ ns) → n ≤ ns.length → Q (.ref A) (upd H A (SetO w A S n))
theorem cr_setOf {X : Cx} (hc : X.calm = true) : CallR X (.type "set") (rSetOf X.K X.w) := by
  intro pins s σ H xs us Q I r h
  obtain ⟨l, ns, rfl, hq, hl, q⟩ := h
  obtain ⟨u, rfl, rx⟩ := vals1 r
  obtain rfl : u = Value.ref l := rx
  obtain ⟨its, rv, pl, hz⟩ := I.list hq
  refine call_set_listI ns (I.ok.hd hc) pl.isList (by simpa using RZ.intsAre_vals rv) (by unfold scanBound; omega) fun h' tk c hS hn hk => ?_
  exact ⟨.ref s.heap.objs.size, _, I.laid hk (Nat.le_refl _) (setO_new hS), rfl, q _ _ _ (I.hok.fresh (Nat.le_refl _)) (fun k => by rw [decide_eq_true_eq]) hn⟩
end L2
namespace DL
open PySem L2 PySem.Spec PyProof.Rows
/-- sorted(set(xs)) -/
def dSortSet (ta : DTE) : DTE := fun δ μ q => ta δ μ fun x μ1 => ∃ ns : List Int, lstOf μ1 x = some (ns.map D.int) ∧ ns.length < 64 ∧ ∀ ms : List Int, ms.Pairwise (· < ·) → (∀ k, k ∈ ms ↔ k ∈ ns) → q (.lst (ms.map D.int)) μ1
theorem de_sortSet {O : Org} {X : Cx} {a : Expr} {ta : DTE} {p p2 p3 pos : Pos} (hg : Gl X "sorted") (hm : X.mg "sorted" = none) (hb : PySem.bootBuiltins "sorted" = some (.builtin "sorted")) (hg2 : Gl X "set") (hm2 : X.mg "set" = none) (hb2 : PySem.bootBuiltins "set" = some (.type "set")) (ha : DE O X a ta) (hc : X.calm = true := by rfl)
    (na : starEach [Expr.Call (.Name "set" p2) [a] [] p3] X.env = (false, eval (.Call (.Name "set" p2) [a] [] p3) X.env) :: starEach [] X.env := by rfl) (na2 : starEach [a] X.env = (false, eval a X.env) :: starEach [] X.env := by rfl) (hpl : (backTo pos (starEach [] X.env)).any (·.1) = false := by rfl) (hpl2 : (backTo p3 (starEach [] X.env)).any (·.1) = false := by rfl) : DE O X (.Call (.Name "sorted" p) [.Call (.Name "set" p2) [a] [] p3] [] pos) (dSortSet ta) :=
  pe_weak (pe_callB (cr_sortedSet hc) hg hm hb (pa_cons (pe_callTy (cr_setOf hc) hg2 hm2 hb2 (pa_cons ha pa_nil na2) (by decide) (by decide) na2 hpl2) pa_nil na) (by decide) (by decide) na hpl) fun σ H Q ⟨F, δ, μ, q, hd, rs, t, k⟩ => ⟨F, δ, μ, _, hd, rs, t, fun F1 H1 μ1 x v e1 hd1 r1 ⟨ns, h1, h2, t1⟩ => by
    obtain ⟨l, vs, rfl, h3, h4⟩ := list_sq hd1 r1 h1
    obtain rfl := h4.ints
    refine ⟨l, ns, rfl, h3, by omega, fun A S n hA hS hn => ?_⟩
    have nG : ¬ F1.G A := hd1.nf hA
    have hdp : Hd X.K O F1 (upd H1 A (SetO X.w A S n)) μ1 := by
      refine ⟨hd1.org.trans (ext_new hd1 hA), fun a f => ?_, fun a m e => ?_⟩
      · have z : a ≠ A := fun z => nG (z ▸ f)
        rw [upd_ne z]; exact hd1.fr a f
      · have z : a ≠ A := fun z => by rw [z, hd1.free hA] at e; cases e
        exact ⟨(hd1.own a m e).1, (hd1.own a m e).2.ext (ext_new hd1 hA) (upd_ne z)⟩
    refine ⟨A, S, n, rfl, upd_same, by omega, fun ms p hp hm _ hn => ?_⟩
    exact k _ _ μ1 (.lst (ms.map D.int)) (.ref p) ((e1.trans (ext_new hd1 hA)).trans (ext_newF hdp hn)) (hdp.newF hn) ⟨p, _, rfl, ⟨.inr rfl, upd_same⟩, RepL.of_ints ms⟩ (t1 ms hp (fun k => (hm k).trans (hS k)))⟩
end DL

set_option Elab.async false
set_option linter.all false
set_option maxRecDepth 100000
set_option maxHeartbeats 2000000
/-! DKY: the keys of a dict, walked: from then on it is locked -/
namespace L2
open PySem PySem.Spec PyProof.Rows
def iKeysL (td : TE) : TI := fun σ H R => td σ H fun x H1 => ∃ d kvs, x = .ref d ∧ ((H1 d = some (.dK kvs) ∧ ∀ o, R (Itk d o kvs) (upd H1 d (.frz o (.dK kvs)))) ∨ ∃ o, H1 d = some (.frz o (.dK kvs)) ∧ R (Itk d o kvs) H1)
theorem walk_frz {X : Cx} {tg : Expr} {pins : List (Addr × Obj)} {σ : L2.St} {H : Hp} {s : Shared} {d : Addr} {o : Obj} {kvs : List (Key × V)} {R : It → Hp → Prop} (I : Inv X pins σ H s) (hd : H d = some (.frz o (.dK kvs))) (q : R (Itk d o kvs) H) :
    wpAny (model X.prog X.w) X.A (pyIter (.ref d)) (PIE X pins σ tg R) X.xe s := by
  obtain ⟨hs, hgd, hx, es, ep, vs, hdt, hsz, kv, hm⟩ := I.frzK hd
  refine iter_keys hs hgd hx hdt (pi_one I _ (turn_keys s.heap.objs.size hdt) ⟨_, Heap.get?_push_size s.heap rfl, rfl, ?_⟩ q)
  rw [hsz]; rfl
theorem pi_keysL {X : Cx} {tg e : Expr} {td : TE} (he : PE X e td) : PI X tg e (iKeysL td) := by
  constructor
  intro pins s σ H R I h
  refine thn (he.run pins s σ H _ I h) ?_
  rintro v s1 ⟨x, H1, I1, r1, d, kvs, rfl, hq⟩
  cases r1
  rcases hq with ⟨hd, q⟩ | ⟨o, hd, q⟩
  · obtain ⟨od, I2⟩ := I1.lock hd (by trivial)
    exact walk_frz I2 upd_same (q od)
  · exact walk_frz I1 hd q
theorem lookup_re {env : Env} {x : PySem.Str} : ∀ {l : List (PySem.Str × NameKind)}, (List.lookup x l = some .cell ∨ List.lookup x l = some .free) → List.lookup x (l.map fun p => match p with | (n, k) => if (k == NameKind.free && env.scope.kind == ScopeKind.function && env.kindOf n == some NameKind.cell) = true then (n, NameKind.cell) else (n, k)) = some .cell ∨
    List.lookup x (l.map fun p => match p with | (n, k) => if (k == NameKind.free && env.scope.kind == ScopeKind.function && env.kindOf n == some NameKind.cell) = true then (n, NameKind.cell) else (n, k)) = some .free
  | [], h => by simp at h
  | (n, k) :: r, h => by
    rw [List.map_cons]
    by_cases z : (x == n) = true
    · have e : List.lookup x ((n, k) :: r) = some k := by rw [List.lookup_cons, z]
      rw [e] at h
      dsimp only
      split
      · left; rw [List.lookup_cons, z]
      · rw [List.lookup_cons, z]; exact h
    · have z : (x == n) = false := by simpa using z
      have e : List.lookup x ((n, k) :: r) = List.lookup x r := by rw [List.lookup_cons, z]
      rw [e] at h
      have ih := lookup_re (env := env) h
      dsimp only
      split
      · rw [List.lookup_cons, z]; exact ih
      · rw [List.lookup_cons, z]; exact ih
/-- within a comprehension -/
theorem blkOk_re {N : List PySem.Str} {sc : Scope} {env : Env} {scope : Scope} {own : List (PySem.Str × Nat)} (h : BlkOk N sc scope own) : BlkOk N (relabel sc env) scope own :=
  ⟨h.kind, h.uniq, h.ix, fun y hy hf => lookup_re (h.free y hy hf), h.own⟩
end L2
namespace DL
open PySem L2
def keyB : Key → D
  | .inl i => .int i
  | .inr x => .str x
/-- for k in d -/
def diDk (te : DTE) : DTI := fun δ μ q => te δ μ fun x μ1 => match x with
  | .adr p => (∃ kvs, μ1 p = some (.dic kvs) ∧ ∀ u, q (kvs.map fun kv => keyB kv.1) (fun μ => μ p = some (.dkl u kvs)) (updM μ1 p (.dkl u kvs))) ∨
    ∃ u kvs, μ1 p = some (.dkl u kvs) ∧ q (kvs.map fun kv => keyB kv.1) (fun μ => μ p = some (.dkl u kvs)) μ1
  | _ => False
theorem rep_keyB {K : PySem.W.Frag} {F : Zo} {H : Hp} (k : Key) : Rep K F H (keyB k) (kV k) := by
  cases k
  · exact rfl
  · exact rfl
theorem itok_keys {O : Org} {K : PySem.W.Frag} {F : Zo} {H : Hp} {p : Addr} {o : Obj} {kvs : List (Key × D)} {vs : List V} (hl : kvs.length = vs.length) :
    ItOk K O F H (kvs.map fun kv => keyB kv.1) (fun μ => μ p = some (.dkl (.frz o (.dK ((kvs.map (·.1)).zip vs))) kvs)) (Itk p o ((kvs.map (·.1)).zip vs)) := by
  have len : ((kvs.map (·.1)).zip vs).length = kvs.length := by rw [List.length_zip, List.length_map]; omega
  refine ⟨fun i F2 H2 μ2 e hd k h => ?_, fun i F2 H2 μ2 x H3 e hd k h ⟨h1, kk, vv, h2, h3⟩ => ?_, fun i F2 H2 μ2 e hd k h => ?_⟩
  · obtain ⟨_, o2, ws, w1, w2, w3⟩ := hd.own p _ k
    refine ⟨w1, ?_⟩
    rw [len]; rw [List.length_map] at h; exact h
  · subst h1 h3
    refine ⟨F2, keyB kk, Ext.refl _ _, hd, ?_, rep_keyB kk⟩
    rw [List.length_map] at h
    obtain ⟨hlt, e2⟩ := List.getElem?_eq_some_iff.mp h2
    rw [List.getElem_zip] at e2
    have e3 : kvs[i].1 = kk := by
      have := congrArg Prod.fst e2
      simpa using this
    rw [List.getElem?_map, List.getElem?_eq_getElem h, Option.map_some, e3]
  · obtain ⟨_, o2, ws, w1, w2, w3⟩ := hd.own p _ k
    refine ⟨w1, ?_⟩
    rw [len]; rw [List.length_map] at h; exact h
theorem di_dk {O : Org} {X : Cx} {tg e : Expr} {te : DTE} (he : DE O X e te) : DI O X tg e (diDk te) := pi_weak (pi_keysL he) fun σ H R ⟨F, δ, μ, q, hd, rs, t, k⟩ =>
  ⟨F, δ, μ, _, hd, rs, t, fun F1 H1 μ1 d v e1 hd1 r1 t1 => by
    cases d <;> first | exact False.elim t1 | skip
    rename_i p
    obtain rfl : v = .ref p := r1
    rcases t1 with ⟨kvs, hm, t1⟩ | ⟨u, kvs, hm, t1⟩
    · obtain ⟨ng, vs, h1, h2⟩ := hd1.own p _ hm
      have hl : kvs.length = vs.length := by have := h2.length; rw [List.length_map] at this; exact this
      refine ⟨p, _, rfl, .inl ⟨h1, fun o => ?_⟩⟩
      have ex := ext_set (o := HO.frz o (.dK ((kvs.map (·.1)).zip vs))) hd1 hm
      have hd2 := hd1.set (m' := .dkl (HO.frz o (.dK ((kvs.map (·.1)).zip vs))) kvs) hm ⟨o, vs, upd_same, rfl, h2.ext ex⟩
      exact k F1 _ _ _ _ _ (e1.trans ex) hd2 (itok_keys hl) (t1 _)
    · obtain ⟨ng, o, vs, h1, rfl, h2⟩ := hd1.own p _ hm
      have hl : kvs.length = vs.length := by have := h2.length; rw [List.length_map] at this; exact this
      exact ⟨p, _, rfl, .inr ⟨o, h1, k F1 _ _ _ _ _ e1 hd1 (itok_keys hl) t1⟩⟩⟩
end DL

set_option Elab.async false
set_option linter.all false
set_option maxRecDepth 100000
set_option maxHeartbeats 2000000
/-! DMX: max(l, default = d): the loop behind the first value -/
namespace L2
open PySem PySem.Spec PyProof.Rows
theorem max_loopD {prog : Program} {w : World} {A : Around} {R : Result → Shared → Prop} {I : Addr} {fp wr : List Addr} {n : Nat} {P : Nat → Value → Prop} {St : Nat → Heap → Prop} (W : Walks prog w A.in1 I fp wr n P St) (bt : Nat → Nat → Bool) (hcmp : CmpOf prog w A.in1 CmpOp.Gt P bt) (S : Addr) (hSf : ¬ S ∈ fp) (kw : List (PySem.Str × Value)) :
    ∀ (k j : Nat) (s : Shared) (vb : Value) (c : Nat), n - (j + 1) = k → j + 1 ≤ n → St (j + 1) s.heap → P (argBest bt j) vb → s.heap.get? S = some { cls := .type "list", data := .seq #[vb, vb] c } →
      (∀ (v : Value) (h' : Heap) (tk : Nat), P (argBest bt (n - 1)) v → (∀ b o, ¬ b ∈ wr → b ≠ S → s.heap.get? b = some o → h'.get? b = some o) → R (.ok (.ret v)) { heap := h', gens := s.gens, drawn := s.drawn, toks := tk, os := s.os }) →
      codeAny (model prog w) A (Code.builtin "max.loop" { pos := [.ref I, .none, .ref S], kw := kw }) R s := by
  have hSw : ¬ S ∈ wr := fun h => hSf (W.sub S h)
  intro k
  induction k with
  | zero =>
    intro j s vb c hk hj hst hP hS hR
    have hin : n = j + 1 := by omega
    subst hin
    refine codeAny_builtin F.entry_max_loop ?_
    rw [Around.under_plainId F.plain_max_loop]
    refine wpAny_bind (wpAny_seqItems hS rfl ?_)
    refine wpAny_bind (wpAny_tryCatch (W.done s _ _ hst fun h' tk hk' => ?_))
    have hS' := hk' S { cls := .type "list", data := .seq #[vb, vb] c } hSw hS
    refine wpAny_bind (wpAny_updateSeq hS' rfl ?_ ?_ ?_)
    · refine wpAny_bind (wpAny_letGo ?_)
      exact wpAny_pure (hR vb _ tk hP fun b o hbw hbS e => (Heap.get?_update_other _ _ (Ne.symm hbS)).trans (hk' b o hbw e))
    · rw [sizeLine_eq]; show 2 ≤ 16777216; decide
    · rw [sizeLine_eq]; show 0 ≤ 16777216 + 1; decide
  | succ k ih =>
    intro j s vb c hk hj hst hP hS hR
    have hlt : j + 1 < n := by omega
    refine codeAny_builtin F.entry_max_loop ?_
    rw [Around.under_plainId F.plain_max_loop]
    refine wpAny_bind (wpAny_seqItems hS rfl ?_)
    refine wpAny_bind (wpAny_tryCatch (W.item (j + 1) s _ _ hlt hst fun v h' tk hv hst' hk' => ?_))
    have hS' := hk' S { cls := .type "list", data := .seq #[vb, vb] c } hSw hS
    refine wpAny_bind (wpAny_pure ?_)
    refine wpAny_bind (wpAny_tryCatch (wpAny_holding ?_))
    refine wpAny_bind (hcmp (j + 1) (argBest bt j) v vb { heap := h', gens := s.gens, drawn := s.drawn, toks := tk, os := s.os } _ _ hv hP ?_)
    refine wpAny_bind (wpAny_holding (wpAny_truthy_bool ?_))
    refine wpAny_bind (wpAny_letGo (wpAny_pure ?_))
    have hname : (toString "max" ++ toString ".loop" : String) = "max.loop" := by decide +kernel
    have ha : argBest bt (j + 1) = if bt (j + 1) (argBest bt j) = true then j + 1 else argBest bt j := rfl
    cases hb : bt (j + 1) (argBest bt j) with
    | false =>
      rw [hb] at ha
      rw [if_neg (by decide)] at ha
      refine wpAny_ite_false rfl ?_
      refine wpAny_bind (wpAny_letGo ?_)
      rw [hname]
      refine wpAny_pure ⟨plainId_quiet F.plain_max_loop _, ih (j + 1) { heap := h', gens := s.gens, drawn := s.drawn, toks := tk, os := s.os } vb c (by omega) hlt hst' (by rw [ha]; exact hP) hS' fun v' h'' tk'' hP' hk'' => hR v' h'' tk'' hP' fun b o hbw hbS e => hk'' b o hbw hbS (hk' b o hbw e)⟩
    | true =>
      rw [hb] at ha
      rw [if_pos rfl] at ha
      refine wpAny_ite_true rfl ?_
      refine wpAny_bind (wpAny_updateSeq hS' rfl ?_ ?_ ?_)
      · refine wpAny_bind (wpAny_letGo ?_)
        rw [hname]
        refine wpAny_pure ⟨plainId_quiet F.plain_max_loop _, ih (j + 1) _ v (if (((fun x => #[v, v]) #[vb, vb] : Array Value).size == (#[vb, vb] : Array Value).size) = true then c else c + 1) (by omega) hlt (W.frame (j + 1 + 1) h' _ hst' fun b hbf o e => (Heap.get?_update_other h' (Obj.mapSeq fun x => #[v, v]) fun h => hSf (by rw [h]; exact hbf)).trans e) (by rw [ha]; exact hv) (Heap.get?_update_self (Obj.mapSeq fun x => #[v, v]) hS' rfl) fun v' h'' tk'' hP' hk'' => hR v' h'' tk'' hP' fun b o hbw hbS e => hk'' b o hbw hbS ((Heap.get?_update_other h' (Obj.mapSeq fun x => #[v, v]) (Ne.symm hbS)).trans (hk' b o hbw e))⟩
      · rw [sizeLine_eq]; show 2 ≤ 16777216; decide
      · rw [sizeLine_eq]; show 2 ≤ 16777216 + 1; decide
theorem max_firstD {prog : Program} {w : World} {A : Around} {R : Result → Shared → Prop} {I : Addr} {fp wr : List Addr} {n : Nat} {P : Nat → Value → Prop} {St : Nat → Heap → Prop} (W : Walks prog w A.in1 I fp wr n P St) (bt : Nat → Nat → Bool) (hcmp : CmpOf prog w A.in1 CmpOp.Gt P bt) (S : Addr) (hSf : ¬ S ∈ fp) (d : Value)
    {s : Shared} {c : Nat} (hst : St 0 s.heap) (hS : s.heap.get? S = some { cls := .type "list", data := .seq #[] c })
    (hR : ∀ (v : Value) (h' : Heap) (tk : Nat), (0 < n → P (argBest bt (n - 1)) v) → (n = 0 → v = d) → (∀ b o, ¬ b ∈ wr → b ≠ S → s.heap.get? b = some o → h'.get? b = some o) → R (.ok (.ret v)) { heap := h', gens := s.gens, drawn := s.drawn, toks := tk, os := s.os }) :
    codeAny (model prog w) A (Code.builtin "max.loop" { pos := [.ref I, .none, .ref S], kw := [("default", d)] }) R s := by
  have hSw : ¬ S ∈ wr := fun h => hSf (W.sub S h)
  have hname : (toString "max" ++ toString ".loop" : String) = "max.loop" := by decide +kernel
  refine codeAny_builtin F.entry_max_loop ?_
  rw [Around.under_plainId F.plain_max_loop]
  refine wpAny_bind (wpAny_seqItems hS rfl ?_)
  by_cases hn : n = 0
  · subst hn
    refine wpAny_bind (wpAny_tryCatch (W.done s _ _ hst fun h' tk hk' => ?_))
    refine wpAny_bind (wpAny_rule ?_)
    refine wpAny_pure ?_
    exact hR d h' tk (fun z => absurd z (by decide)) (fun _ => rfl) fun b o hbw _ e => hk' b o hbw e
  · refine wpAny_bind (wpAny_tryCatch (W.item 0 s _ _ (by omega) hst fun v h' tk hv hst' hk' => ?_))
    have hS' := hk' S { cls := .type "list", data := .seq #[] c } hSw hS
    refine wpAny_bind (wpAny_pure ?_)
    refine wpAny_bind (wpAny_updateSeq hS' rfl ?_ ?_ ?_)
    · rw [hname]
      refine wpAny_pure ⟨plainId_quiet F.plain_max_loop _, max_loopD W bt hcmp S hSf _ (n - 1) 0 _ v _ rfl (by omega) (W.frame 1 h' _ hst' fun b hbf o e => (Heap.get?_update_other h' (Obj.mapSeq fun x => #[v, v]) fun h => hSf (by rw [h]; exact hbf)).trans e) hv (Heap.get?_update_self (Obj.mapSeq fun x => #[v, v]) hS' rfl) fun v' h'' tk'' hP' hk'' => hR v' h'' tk'' (fun _ => hP') (fun z => absurd z hn) fun b o hbw hbS e => hk'' b o hbw hbS ((Heap.get?_update_other h' (Obj.mapSeq fun x => #[v, v]) (Ne.symm hbS)).trans (hk' b o hbw e))⟩
    · rw [sizeLine_eq]; show 0 ≤ 16777216; decide
    · rw [sizeLine_eq]; show 2 ≤ 16777216 + 1; decide
theorem call_maxD {prog : Program} {w : World} {A : Around} {E : Value → Shared → Prop} {s : Shared} {x d : Value} {Q : Value → Shared → Prop} (h : wpAny (model prog w) A.in1 (pyIter x) (fun it s₂ => ∃ I fp wr n P St bt, it = .ref I ∧ Walks prog w A.in1 I fp wr n P St ∧ St 0 s₂.heap ∧ (∀ b ∈ fp, b < s₂.heap.objs.size) ∧ CmpOf prog w A.in1 CmpOp.Gt P bt ∧
      ∀ (v : Value) (h' : Heap) (tk : Nat), (0 < n → P (argBest bt (n - 1)) v) → (n = 0 → v = d) → (∀ b o, ¬ b ∈ wr → s₂.heap.get? b = some o → h'.get? b = some o) → Q v { heap := h', gens := s₂.gens, drawn := s₂.drawn, toks := tk, os := s₂.os }) E s) :
    wpAny (model prog w) A (call (.builtin "max") [x] [("default", d)]) Q E s := by
  refine wpAny_call (codeAny_call_builtin F.plain_max F.entry_max ?_)
  refine wpAny_of_eq (show checkBuiltinCall "max" { pos := [x], kw := [("default", d)] } = pure () from ?_) ?_
  · unfold checkBuiltinCall
    rw [F.kind_max]
    rfl
  refine wpAny_bind (wpAny_of_eq (a := [none, some d]) rfl ?_)
  have hname : (toString "max" ++ toString ".loop" : String) = "max.loop" := by decide +kernel
  refine wpAny_bind (wpAny_pure ?_)
  refine wpAny_bind (wpAny_mono h (fun it s₂ h₂ => ?_) fun _ _ e => e)
  obtain ⟨I, fp, wr, n, P, St, bt, rfl, W, hst, hfp, hcmp, hQ⟩ := h₂
  have hSf : ¬ s₂.heap.objs.size ∈ fp := fun hm => Nat.lt_irrefl _ (hfp _ hm)
  refine wpAny_bind (wpAny_newObj_type ?_ ?_)
  · rw [hname]
    refine wpAny_pure ⟨plainId_quiet F.plain_max_loop _, ?_⟩
    refine max_firstD W bt hcmp s₂.heap.objs.size hSf d (W.frame 0 s₂.heap _ hst fun b _ o e => Heap.get?_push_of_some _ e) (Heap.get?_push_size s₂.heap rfl) fun v h' tk h1 h2 h3 => ?_
    exact hQ v h' tk h1 h2 fun b o hb e => h3 b o hb (Nat.ne_of_lt (Heap.lt_size e)) (Heap.get?_push_of_some _ e)
  · show (#[] : Array Value).size ≤ sizeLine
    rw [sizeLine_eq]; show 0 ≤ 16777216; decide
end L2

set_option Elab.async false
set_option linter.all false
set_option maxRecDepth 100000
set_option maxHeartbeats 2000000
/-! DMY: max(l, default = d) over data -/
namespace L2
open PySem PySem.Spec PyProof.Rows DL
theorem argBest_max (val : Nat → Int) : ∀ j, argBest (fun i j => decide (val i > val j)) j ≤ j ∧ ∀ i, i ≤ j → val i ≤ val (argBest (fun i j => decide (val i > val j)) j)
  | 0 => ⟨Nat.le_refl 0, fun i hi => by
    obtain rfl : i = 0 := by omega
    exact Int.le_refl _⟩
  | j + 1 => by
    obtain ⟨h1, h2⟩ := argBest_max val j
    have e : argBest (fun i j => decide (val i > val j)) (j + 1) = if (decide (val (j + 1) > val (argBest (fun i j => decide (val i > val j)) j))) = true then j + 1 else argBest (fun i j => decide (val i > val j)) j := rfl
    rw [e]
    by_cases z : val (j + 1) > val (argBest (fun i j => decide (val i > val j)) j)
    · rw [if_pos (decide_eq_true z)]
      refine ⟨Nat.le_refl _, fun i hi => ?_⟩
      rcases Nat.lt_or_ge j i with w | w
      · obtain rfl : i = j + 1 := by omega
        exact Int.le_refl _
      · have := h2 i w; omega
    · rw [if_neg (by rw [decide_eq_false z]; decide)]
      refine ⟨by omega, fun i hi => ?_⟩
      rcases Nat.lt_or_ge j i with w | w
      · obtain rfl : i = j + 1 := by omega
        omega
      · exact h2 i w
def tMaxD (K : PySem.W.Frag) (ta tk : TA) : TE := fun σ H Q => ta σ H fun xs H1 => tk σ H1 fun ys H2 => ∃ l ns d, xs = [.ref l] ∧ ys = [.int d] ∧ SqL K H2 l (List.map V.int ns) ∧ ∀ m, (ns = [] → m = d) → (ns ≠ [] → m ∈ ns ∧ ∀ z ∈ ns, z ≤ m) → Q (.int m) H2
theorem pe_maxD {X : Cx} {a : Expr} {kws : List Keyword} {ta tk : TA} {p pos : Pos} (hg : Gl X "max") (hm : X.mg "max" = none) (hb : bootBuiltins "max" = some (.builtin "max")) (hc : X.calm = true) (ha : PA X [a] ta) (hkw : PK X kws tk)
    (he : starEach [a] X.env = (false, eval a X.env) :: starEach [] X.env) (hall : ((backToKw pos (keywordEach kws X.env)).all (·.1.isSome)) = true) (hks : (backToKw pos (keywordEach kws X.env)).filterMap (·.1) = [("default" : Str)])
    (h1 : (backTo pos (starEach [a] X.env)).any (·.1) = false) (h2 : (backToKw pos (keywordEach kws X.env)).any (·.1.isNone) = false) : PE X (.Call (.Name "max" p) [a] kws pos) (tMaxD X.K ta tk) := by
  constructor
  intro pins s σ H Q I h
  refine wpAny_Call_Name_kw (ld_blt I hg hm hb ?_)
  refine callWith_builtin_kwB h1 h2 ?_
  have hr := ha.run pos pins s σ H _ I h
  unfold evalArgs
  rw [he] at hr ⊢
  dsimp only
  refine wpAny_bind (thn hr ?_)
  rintro us s1 ⟨vs, H1, I1, r, q⟩
  refine wpAny_bind (wpAny_pure ?_)
  dsimp only
  refine wpAny_holding ?_
  refine wpAny_ite_true (decide_eq_true hall) ?_
  refine wpAny_bind (thn (hkw.run pos pins s1 σ H1 _ I1 q) ?_)
  rintro ws s2 ⟨zs, H2, I2, rz, l1, l2, q2⟩
  refine wpAny_bind (wpAny_pure ?_)
  refine wpAny_pure ?_
  dsimp only
  rw [hks]
  obtain ⟨d, rfl, rfl, hq, q3⟩ := q2
  obtain ⟨u, rfl, rx⟩ := vals1 r
  obtain rfl : u = Value.ref l1 := rx
  obtain ⟨v, rfl, ry⟩ := vals1 rz
  obtain ⟨t, rfl⟩ := ry
  obtain ⟨its, rv, pl, hz⟩ := I2.list hq
  have hl := pl.isList
  have hsz : its.toArray.size = l2.length := by rw [List.size_toArray, ← rv.length, List.length_map]
  have hints : IntsAre its.toArray.toList l2 := by simpa using RZ.intsAre_vals rv
  have hval : ∀ (i : Nat) (v : Value), its.toArray[i]? = some v → ∃ t, v = .int (l2.getD i 0) t := fun i v hv => IntsAre.int_at hints i v (by rw [Array.getElem?_toList]; exact hv)
  have hh : X.A.in1.handled = none := I2.ok.hd hc
  show wpAny (model X.prog X.w) X.A (call (.builtin "max") [.ref l1] [("default", .int d t)]) _ _ _
  refine call_maxD (wpAny_pyIter_list hl ?_)
  have hneI : l1 ≠ s2.heap.objs.size := by
    obtain ⟨ol, hol, _⟩ := hl
    exact Nat.ne_of_lt (Heap.lt_size hol)
  refine ⟨_, _, _, _, _, _, _, rfl, Walks.list hh s2.heap.objs.size l1 hneI its.toArray, ⟨⟨_, Heap.get?_push_size s2.heap rfl, rfl, rfl⟩, hl.push _⟩, fun b hb => ?_, CmpOf.ints_gt (fun i => l2.getD i 0) hval, fun v h' tk p1 p2 hk => ?_⟩
  · rw [List.mem_cons, List.mem_singleton] at hb
    rw [Heap.size_push]
    rcases hb with rfl | rfl
    · exact Nat.lt_succ_self _
    · obtain ⟨ol, hol, _⟩ := hl
      exact Nat.lt_succ_of_lt (Heap.lt_size hol)
  · have hk2 : ∀ b o, s2.heap.get? b = some o → h'.get? b = some o := fun b o e => hk b o (by
      rw [List.mem_singleton]
      exact Nat.ne_of_lt (Heap.lt_size e)) (Heap.get?_push_of_some _ e)
    by_cases hn : l2 = []
    · have := p2 (by rw [hsz, hn]; rfl)
      exact ⟨.int d, H2, I2.kept hk2, ⟨t, this⟩, q3 d (fun _ => rfl) fun z => absurd hn z⟩
    · have hpos : 0 < its.toArray.size := by rw [hsz]; exact List.length_pos_iff.mpr hn
      have hb := p1 hpos
      obtain ⟨m1, m2⟩ := argBest_max (fun i => l2.getD i 0) (its.toArray.size - 1)
      generalize argBest (fun i j => decide (l2.getD i 0 > l2.getD j 0)) (its.toArray.size - 1) = k at hb m1 m2
      obtain ⟨t2, ev⟩ := hval k v hb
      have hkl : k < l2.length := by omega
      refine ⟨.int (l2.getD k 0), H2, I2.kept hk2, ⟨t2, ev⟩, q3 _ (fun z => absurd z hn) fun _ => ⟨?_, fun z hz => ?_⟩⟩
      · rw [List.getD_eq_getElem?_getD, List.getElem?_eq_getElem hkl]
        exact List.getElem_mem hkl
      · obtain ⟨i, hi, rfl⟩ := List.getElem_of_mem hz
        have := m2 i (by omega)
        rw [List.getD_eq_getElem?_getD, List.getElem?_eq_getElem hi] at this
        exact this
end L2
namespace DL
open PySem L2
/-- max(l, default = d) -/
def dMaxD (ta tk : DTA) : DTE := fun δ μ q => ta δ μ fun xs μ1 => tk δ μ1 fun ys μ2 => ∃ x ns d, xs = [x] ∧ ys = [.int d] ∧ lstOf μ2 x = some (ns.map D.int) ∧ ∀ m, (ns = [] → m = d) → (ns ≠ [] → m ∈ ns ∧ ∀ z ∈ ns, z ≤ m) → q (.int m) μ2
theorem de_maxD {O : Org} {X : Cx} {a : Expr} {kws : List Keyword} {ta : DTA} {tk : DTA} {p pos : Pos} (hg : Gl X "max") (hm : X.mg "max" = none) (hb : bootBuiltins "max" = some (.builtin "max")) (ha : DA O X [a] ta) (hkw : DKw O X kws tk) (hc : X.calm = true := by rfl)
    (he : starEach [a] X.env = (false, eval a X.env) :: starEach [] X.env := by rfl) (hall : ((backToKw pos (keywordEach kws X.env)).all (·.1.isSome)) = true := by rfl) (hks : (backToKw pos (keywordEach kws X.env)).filterMap (·.1) = [("default" : Str)] := by rfl)
    (h1 : (backTo pos (starEach [a] X.env)).any (·.1) = false := by rfl) (h2 : (backToKw pos (keywordEach kws X.env)).any (·.1.isNone) = false := by rfl) : DE O X (.Call (.Name "max" p) [a] kws pos) (dMaxD ta tk) :=
  pe_weak (pe_maxD hg hm hb hc ha hkw he hall hks h1 h2) fun σ H Q ⟨F, δ, μ, q, hd, rs, t, k⟩ => ⟨F, δ, μ, _, hd, rs, t, fun F1 H1 μ1 ds vs e1 hd1 r1 t1 => ⟨F1, δ, μ1, _, hd1, rs.ext e1, t1, fun F2 H2 μ2 zs us e2 hd2 r2 t2 => by
    obtain ⟨x, ns, d, rfl, rfl, hx, t2⟩ := t2
    obtain ⟨v, rfl, h1⟩ := repL1 (r1.ext e2)
    obtain ⟨v2, rfl, h2⟩ := repL1 r2
    obtain rfl : v2 = .int d := h2
    obtain ⟨l, ws, rfl, h3, h4⟩ := list_sq hd2 h1 hx
    obtain rfl := h4.ints
    exact ⟨l, ns, d, rfl, rfl, h3, fun m m1 m2 => k F2 H2 μ2 (.int m) _ (e1.trans e2) hd2 rep_int (t2 m m1 m2)⟩⟩⟩
end DL

set_option Elab.async false
set_option linter.all false
set_option maxRecDepth 100000
set_option maxHeartbeats 2000000
/-! DLM: a comprehension whose list is written afterwards -/
namespace DL
open PySem L2
def dLcM (ti : DTI) (g : DTG) (tt : DTT) (te : DTE) (vs : List Nat) : DTE := fun δ μ q => ti δ μ fun items keep μ1 => ∃ P : Nat → List D → Mu → Prop, P 0 [] μ1 ∧ (∀ i l μ, i ≤ items.length → P i l μ → keep μ ∧ l.length < sizeLine) ∧
  (∀ i d l μ, items[i]? = some d → P i l μ → g d (wipeD δ vs) μ fun δ2 μ2 => tt δ2 μ2 fun b μ3 => if b = true then te δ2 μ3 fun y μ4 => P (i + 1) (l ++ [y]) μ4 else P (i + 1) l μ3) ∧ ∀ l μ, P items.length l μ → ∀ p, μ p = none → q (.adr p) (updM μ p (.lst l))
section
variable {O : Org} {X : Cx}
theorem llcM {K : PySem.W.Frag} {ti : DTI} {g : DTG} {tt : DTT} {te : DTE} {ws vs : List Nat} (hw : ∀ i ∈ ws, i ∈ vs) : ∀ σ H Q, LE K O (dLcM ti g tt te vs) σ H Q → tLc (LI K O ti) (LGw K O ws g) (LT K O tt) (LE K O te) vs σ H Q := fun σ H Q ⟨F, δ, μ, q, hd, rs, t, k⟩ =>
  ⟨F, δ, μ, _, hd, rs, t, fun F1 H1 μ1 items keep J e1 hd1 ok ⟨P, p0, pk, step, fin⟩ => by
    intro A hA
    -- the new list stays out of reach: what is said holds of the heap with it
    have nG : ¬ F1.G A := hd1.nf hA
    refine ⟨fun i m H' => m = items.length - i ∧ i ≤ items.length ∧ ∃ F2 l us μ2, Ext F1 H1 F2 H' ∧ Hd K O F2 H' μ2 ∧ ¬ F2.G A ∧ μ2 A = none ∧ H' A = some (.lst us) ∧ RepL K F2 H' l us ∧ P i l μ2, ⟨_, rfl, Nat.zero_le _, F1, [], [], μ1, ext_new hd1 hA, ⟨hd1.org.trans (ext_new hd1 hA), fun a f => ?_, fun a m e => ?_⟩, nG, hd1.free hA, upd_same, RepL.nil, p0⟩, ?_⟩
    · have z : a ≠ A := fun z => nG (z ▸ f)
      rw [upd_ne z]; exact hd1.fr a f
    · have z : a ≠ A := fun z => by rw [z, hd1.free hA] at e; cases e
      exact ⟨(hd1.own a m e).1, (hd1.own a m e).2.ext (ext_new hd1 hA) (upd_ne z)⟩
    rintro i m H2 ⟨rfl, hi, F2, l, us, μ2, e2, hd2, nA, mA, hA2, rl, p2⟩
    obtain ⟨kk, hsz⟩ := pk i l μ2 hi p2
    by_cases hlt : i < items.length
    · refine .inr ⟨ok.go i F2 H2 μ2 e2 hd2 kk hlt, fun H' => ∃ F2 l us μ2, Ext F1 H1 F2 H' ∧ Hd K O F2 H' μ2 ∧ ¬ F2.G A ∧ μ2 A = none ∧ H' A = some (.lst us) ∧ RepL K F2 H' l us ∧ P (i + 1) l μ2, fun H' q => ⟨_, by omega, rfl, hlt, q⟩, fun x H3 hy => ?_⟩
      have ep : Ext F2 H2 (addG F2 A) H2 := ⟨fun _ f => f, fun _ f => .inl f, fun _ _ => rfl, fun _ _ f => f⟩
      have hdp : Hd K O (addG F2 A) H2 μ2 := by
        refine ⟨hd2.org.trans ep, fun a f => f.elim (hd2.fr a) fun z => by rw [z, hA2]; simp, fun a m e => ?_⟩
        have z : a ≠ A := fun z => by rw [z, mA] at e; cases e
        exact ⟨fun f => f.elim (hd2.own a m e).1 z, (hd2.own a m e).2.ext ep rfl⟩
      obtain ⟨F3, d, e3, hd3, hd', r3⟩ := ok.yld i (addG F2 A) H2 μ2 x H3 (e2.trans ep) hdp kk hlt hy
      have e03 := (e1.trans (e2.trans ep)).trans e3
      refine ⟨F3, d, wipeD δ vs, μ2, _, hd3, (rs.wipe vs).ext e03, r3, step i d l μ2 hd' p2, fun F4 H4 μ4 δ4 σ4 e4 hd4 rs4 a4 t4 => ⟨(wipe_agr (a4.mono hw)).trans (wipe_wipe σ vs), F4, δ4, μ4, _, hd4, rs4, t4, fun F5 H5 μ5 b e5 hd5 t5 => ?_⟩⟩
      have e25 : Ext (addG F2 A) H2 F5 H5 := (e3.trans e4).trans e5
      -- what a turn leaves, whether or not something was appended
      have close : ∀ F6 H6 μ6, Ext (addG F2 A) H2 F6 H6 → Hd K O F6 H6 μ6 → ∀ (l' : List D) (us' : List V), RepL K F6 H6 l' us' → P (i + 1) l' μ6 →
          ∃ F7 l7 us7 μ7, Ext F1 H1 F7 (upd H6 A (.lst us')) ∧ Hd K O F7 (upd H6 A (.lst us')) μ7 ∧ ¬ F7.G A ∧ μ7 A = none ∧ (upd H6 A (.lst us')) A = some (.lst us7) ∧ RepL K F7 (upd H6 A (.lst us')) l7 us7 ∧ P (i + 1) l7 μ7 := by
        intro F6 H6 μ6 e6 hd6 l' us' r' p'
        have nf : ¬ F6.F A := fun f => nA (F2.sub A (e6.o A (.inr rfl) f))
        have gA : F6.G A := e6.g A (.inr rfl)
        have mA6 : μ6 A = none := by
          cases e : μ6 A with
          | none => rfl
          | some m => exact absurd gA (hd6.own A m e).1
        have le : Le F6 H6 (remG F6 A nf) (upd H6 A (.lst us')) := ⟨fun _ f => f, fun {a} f => upd_ne fun z => nf (z ▸ f)⟩
        have ex1 : Ext F1 H1 (remG F6 A nf) (upd H6 A (.lst us')) := ⟨fun a f => e6.f a (e2.f a f), fun a f => ⟨e6.g a (.inl (e2.g a f)), fun z => nG (z ▸ f)⟩, fun a f => by
          have z : a ≠ A := fun z => nG (z ▸ f)
          rw [upd_ne z, e6.h a (.inl (e2.g a f)), e2.h a f], fun a f k => e2.o a f (e6.o a (.inl (e2.g a f)) k)⟩
        refine ⟨remG F6 A nf, l', us', μ6, ex1, ⟨hd1.org.trans ex1, fun a f => ?_, fun a m e => ?_⟩, fun f => f.2 rfl, mA6, upd_same, r'.mv le, p'⟩
        · rw [upd_ne f.2]; exact hd6.fr a f.1
        · have z : a ≠ A := fun z => by rw [z, mA6] at e; cases e
          exact ⟨fun f => (hd6.own a m e).1 f.1, (hd6.own a m e).2.mv le (upd_ne z)⟩
      cases b with
      | true =>
        rw [if_pos rfl] at t5
        dsimp only
        rw [if_pos rfl]
        refine ⟨F5, δ4, μ5, _, hd5, rs4.ext e5, t5, fun F6 H6 μ6 y v e6 hd6 r6 t6 => ?_⟩
        have e26 := e25.trans e6
        refine ⟨us, (e26.h A (.inr rfl)).trans hA2, by rw [← rl.length]; exact hsz, ?_⟩
        exact close F6 H6 μ6 e26 hd6 (l ++ [y]) (us ++ [v]) (((rl.ext ep).ext e26).append (.cons r6 RepL.nil)) t6
      | false =>
        rw [if_neg Bool.false_ne_true] at t5
        dsimp only
        rw [if_neg Bool.false_ne_true]
        have c := close F5 H5 μ5 e25 hd5 l us ((rl.ext ep).ext e25) t5
        have eu : upd H5 A (.lst us) = H5 := by
          funext b
          unfold upd
          split
          · rename_i e; rw [e, (e25.h A (.inr rfl)).trans hA2]
          · rfl
        rw [eu] at c
        exact c
    · have e : i = items.length := by omega
      subst e
      refine .inl ⟨ok.stop _ F2 H2 μ2 e2 hd2 kk (Nat.le_refl _), ?_⟩
      refine k F2 H2 (updM μ2 A (.lst l)) (.adr A) (.ref A) (e1.trans e2) ⟨hd2.org, hd2.fr, fun a m e => ?_⟩ rfl (fin l μ2 p2 A mA)
      by_cases z : a = A
      · subst z
        rw [updM_same] at e
        cases e
        exact ⟨nA, us, hA2, rl⟩
      · rw [updM_ne z] at e
        exact hd2.own a m e⟩
theorem de_lcM {elt tg iter : Expr} {ifs : List Expr} {scope : Scope} {own : List (Str × Nat)} {pos : Pos} {ti : DTI} {g : DTG} {tt : DTT} {te : DTE} {ws : List Nat} (hc : X.calm = true) (hN : X.N.Nodup) (hi : DI O X tg iter ti) (ok : BlkOk X.N X.env.scope scope own) (hw : ∀ i ∈ ws, i ∈ own.map (·.2))
    (hg : ∀ (s : Shared) (H : Hp) (C : Addr) (cl : List (Str × Addr)) (fp : List Addr), DGw O (X.blk s H scope (compEnvC scope cl C X.env) fp) tg ws g) (ht : ∀ (s : Shared) (H : Hp) (C : Addr) (cl : List (Str × Addr)) (fp : List Addr), DTs O (X.blk s H scope (compEnvC scope cl C X.env) fp) ifs tt)
    (he : ∀ (s : Shared) (H : Hp) (C : Addr) (cl : List (Str × Addr)) (fp : List Addr), DE O (X.blk s H scope (compEnvC scope cl C X.env) fp) elt te) (hs : ∀ x, foldedSetIterable iter X.env x = pure x := by intro _; rfl) :
    DE O X (.ListComp elt [⟨tg, iter, ifs, 0⟩] scope pos) (dLcM ti g tt te (own.map (·.2))) := pe_weak (pe_lc hc hN hi ok hg ht he hs) (llcM hw)
theorem ds_setLcM {i : Nat} {y : Str} {py : Pos} {elt tg iter : Expr} {ifs : List Expr} {scope : Scope} {own : List (Str × Nat)} {pos spos : Pos} {ti : DTI} {g : DTG} {tt : DTT} {te : DTE} {ws : List Nat} (hc : X.calm = true) (hN : X.N.Nodup) (hy : X.N[i]? = some y) (hyl : X.env.scope.names.lookup y = some .local)
    (hsw : swapsWith (.ListComp elt [⟨tg, iter, ifs, 0⟩] scope pos) (some (.Name y py)) spos.line X.env = pure true) (hi : DI O X tg iter ti) (ok : BlkOk X.N X.env.scope scope own) (hw : ∀ i ∈ ws, i ∈ own.map (·.2))
    (hg : ∀ (s : Shared) (H : Hp) (C : Addr) (cl : List (Str × Addr)) (fp : List Addr), DGw O (X.blk s H scope (compEnvC scope cl C X.env) fp) tg ws g) (ht : ∀ (s : Shared) (H : Hp) (C : Addr) (cl : List (Str × Addr)) (fp : List Addr), DTs O (X.blk s H scope (compEnvC scope cl C X.env) fp) ifs tt)
    (he : ∀ (s : Shared) (H : Hp) (C : Addr) (cl : List (Str × Addr)) (fp : List Addr), DE O (X.blk s H scope (compEnvC scope cl C X.env) fp) elt te) (hs : ∀ x, foldedSetIterable iter X.env x = pure x := by intro _; rfl) :
    DSt O X (.Assign [.Name y py] (.ListComp elt [⟨tg, iter, ifs, 0⟩] scope pos) spos) (dAsg (dLcM ti g tt te (own.map (·.2))) (dgName i)) := ps_weak (ps_setLc hc hN hy hyl hsw hi ok hg ht he hs) fun Z σ H ⟨F, δ, μ, E, hd, rs, t, L⟩ =>
  llcM hw σ H _ ⟨F, δ, μ, _, hd, rs, t, fun F1 H1 μ1 d v e1 hd1 r1 t1 => L.nx F1 H1 μ1 _ _ e1 hd1 ((rs.ext e1).set r1) t1⟩
end
end DL

set_option Elab.async false
set_option linter.all false
set_option maxRecDepth 100000
set_option maxHeartbeats 2000000
/-! DDX: dict displays with texts as keys; l.extend(m) -/
namespace DL
open PySem L2
/-- the values of a display, under their keys -/
def DPP (O : Org) (X : Cx) (pos : Pos) (keys : List (Option Expr)) (es : List Expr) (ks : List Str) (t : DTA) : Prop :=
  ∃ trs, PPs X pos keys es trs ∧ keys.all (·.isSome) = true ∧ keys.length = es.length ∧ ks.length = es.length ∧ ∀ σ H Q,
    (∃ F δ μ q, Hd X.K O F H μ ∧ RepS X.K F H δ σ ∧ t δ μ q ∧ ∀ F' H' μ' ds vs, Ext F H F' H' → Hd X.K O F' H' μ' → RepL X.K F' H' ds vs → ds.length = ks.length → q ds μ' → Q ((ks.map V.str).zip vs) H') → tPairs trs σ H Q
section
variable {O : Org} {X : Cx} {pos kp : Pos} {keys : List (Option Expr)} {es : List Expr} {e : Expr} {ks : List Str} {k : Str} {t : DTA} {te : DTE} {j : Nat}
theorem dpp_nil : DPP O X pos [] [] [] dNil := ⟨[], pps_nil, rfl, rfl, rfl, fun σ H Q ⟨F, δ, μ, q, hd, rs, t, k⟩ => k F H μ [] [] (Ext.refl F H) hd RepL.nil rfl t⟩
theorem dpp_cons (he : DE O X e te) (hr : DPP O X pos keys es ks t) : DPP O X pos (some (.Constant (.str k) j kp) :: keys) (e :: es) (k :: ks) (dCons te t) := by
  obtain ⟨trs, h1, h2, h3, h4, h5⟩ := hr
  refine ⟨_, pps_cons pe_str he h1, ?_, by rw [List.length_cons, List.length_cons, h3], by rw [List.length_cons, List.length_cons, h4], fun σ H Q ⟨F, δ, μ, q, hd, rs, t, kk⟩ => ?_⟩
  · rw [List.all_cons, h2]; rfl
  · refine ⟨F, δ, μ, _, hd, rs, t, fun F1 H1 μ1 d v e1 hd1 r1 t1 => ?_⟩
    refine h5 σ H1 _ ⟨F1, δ, μ1, _, hd1, rs.ext e1, t1, fun F2 H2 μ2 ds vs e2 hd2 r2 hl t2 => ?_⟩
    exact kk F2 H2 μ2 (d :: ds) (v :: vs) (e1.trans e2) hd2 (.cons (r1.ext e2) r2) (by rw [List.length_cons, List.length_cons, hl]) t2
theorem merge_apart : ∀ (more acc : List (Key × V)), (∀ p ∈ more, ∀ r ∈ acc, r.1 ≠ p.1) → more.Pairwise (fun a b => a.1 ≠ b.1) → mergeK acc more = acc ++ more
  | [], acc, _, _ => by rw [List.append_nil]; rfl
  | p :: more, acc, h, n => by
    obtain ⟨n1, n2⟩ := List.pairwise_cons.mp n
    have e : putK acc p.1 p.2 = acc ++ [p] := by
      unfold putK
      rw [if_neg]
      intro z
      obtain ⟨r, h1, h2⟩ := List.any_eq_true.mp z
      exact h p List.mem_cons_self r h1 (of_decide_eq_true h2)
    show mergeK (putK acc p.1 p.2) more = _
    rw [e, merge_apart more (acc ++ [p]) (fun a ha r hr => ?_) n2]
    · simp
    · rcases List.mem_append.mp hr with z | z
      · exact h a (List.mem_cons_of_mem _ ha) r z
      · obtain rfl : r = p := by simpa using z
        exact n1 a ha
theorem zip_apart : ∀ (ks : List Str) (vs : List V), ks.Nodup → ((ks.map fun k => (Sum.inr k : Key)).zip vs).Pairwise (fun a b => a.1 ≠ b.1)
  | [], _, _ => by simp
  | k :: ks, [], _ => by simp
  | k :: ks, v :: vs, n => by
    obtain ⟨n1, n2⟩ := List.nodup_cons.mp n
    refine List.pairwise_cons.mpr ⟨fun b hb => ?_, zip_apart ks vs n2⟩
    have := (List.of_mem_zip (show (b.1, b.2) ∈ _ from hb)).1
    obtain ⟨z, hz, e⟩ := List.mem_map.mp this
    intro q
    apply n1
    have q : (Sum.inr k : Key) = b.1 := q
    rw [← e] at q
    obtain rfl := Sum.inr.inj q
    exact hz
theorem zip_keys : ∀ (ks : List Str) (vs : List V), (ks.map V.str).zip vs = ((ks.map fun k => (Sum.inr k : Key)).zip vs).map fun kv => (kV kv.1, kv.2)
  | [], _ => rfl
  | k :: ks, [] => rfl
  | k :: ks, v :: vs => by
    show (V.str k, v) :: (ks.map V.str).zip vs = _
    rw [zip_keys ks vs]; rfl
/-- {"a": x, ..}: it may be written -/
def dDisp (ks : List Str) (t : DTA) : DTE := fun δ μ q => ∀ p, μ p = none → t δ (updM μ p (.dic [])) fun ds μ1 => μ1 p = some (.dic []) ∧ (ds.length = ks.length → q (.adr p) (updM μ1 p (.dic ((ks.map fun k => (Sum.inr k : Key)).zip ds))))
theorem de_disp (h : DPP O X pos keys es ks t) (hn : ks.Nodup) (h0 : keys ≠ []) (h15 : keys.length ≤ 15) : DE O X (.Dict keys es pos) (dDisp ks t) := by
  obtain ⟨trs, h1, h2, h3, h4, h5⟩ := h
  refine pe_weak (pe_disp h1 h2 h3 h0 h15) fun σ H Q ⟨F, δ, μ, q, hd, rs, t, kk⟩ => fun p hp => ?_
  have hd0 := hd.newM (o := HO.dK []) (m := .dic []) hp ⟨[], upd_same, RepL.nil⟩
  refine h5 σ _ _ ⟨F, δ, _, _, hd0, rs.ext (ext_new hd hp), t p (hd.free hp), fun F1 H1 μ1 ds vs e1 hd1 r1 hl ⟨hm, t1⟩ => ?_⟩
  obtain ⟨_, ws, g1, g2⟩ := hd1.own p _ hm
  have g1 : H1 p = some (.dK []) := by rw [g1]; rfl
  have hlv : vs.length = ks.length := by rw [← r1.length, hl]
  have ex := ext_set (o := HO.dK ((ks.map fun k => (Sum.inr k : Key)).zip vs)) hd1 hm
  have hl2 : ((ks.map fun k => (Sum.inr k : Key)).zip ds).map (·.1) = ks.map fun k => (Sum.inr k : Key) := List.map_fst_zip (by rw [List.length_map, hl]; exact Nat.le_refl _)
  have hl3 : ((ks.map fun k => (Sum.inr k : Key)).zip ds).map (·.2) = ds := List.map_snd_zip (by rw [List.length_map, hl]; exact Nat.le_refl _)
  refine ⟨g1, (ks.map fun k => (Sum.inr k : Key)).zip vs, zip_keys ks vs, ?_, ?_⟩
  · rw [List.length_zip, List.length_map]; omega
  · rw [merge_apart _ [] (fun _ _ r hr => by cases hr) (zip_apart ks vs hn), List.nil_append]
    refine kk F1 _ _ (.adr p) (.ref p) (((ext_new hd hp).trans e1).trans ex) (hd1.set (m' := .dic ((ks.map fun k => (Sum.inr k : Key)).zip ds)) hm ⟨vs, ?_, ?_⟩) rfl (t1 hl)
    · rw [hl2]; exact upd_same
    · rw [hl3]; exact r1.ext ex
/-- l.extend(m) -/
def dExtend (tl te : DTE) : DTE := fun δ μ q => tl δ μ fun x μ1 => match x with
  | .adr p => (∃ l, μ1 p = some (.lst l)) ∧ te δ μ1 fun d μ2 => ∃ l m, μ2 p = some (.lst l) ∧ catOf μ2 d = some m ∧ l.length + m.length ≤ sizeLine ∧ q .non (updM μ2 p (.lst (l ++ m)))
  | _ => False
theorem de_extend {o e : Expr} {tl te : DTE} {pos apos : Pos} (h : PE X (.Call (.Attribute o "extend" apos) [e] [] pos) (tBM X.K "list" rExtend (LE X.K O tl) (tCons (LE X.K O te) tNil))) : DE O X (.Call (.Attribute o "extend" apos) [e] [] pos) (dExtend tl te) :=
  pe_weak h fun σ H Q ⟨F, δ, μ, q, hd, rs, t, k⟩ => ⟨F, δ, μ, _, hd, rs, t, fun F1 H1 μ1 x v e1 hd1 r1 t1 => by
    cases x <;> first | exact False.elim t1 | skip
    rename_i p
    obtain rfl : v = .ref p := r1
    obtain ⟨⟨l0, hm⟩, t1⟩ := t1
    obtain ⟨_, vs, h1, h2⟩ := hd1.own p _ hm
    refine ⟨.inl ⟨rfl, vs, SqL.of h1⟩, F1, δ, μ1, _, hd1, rs.ext e1, t1, fun F2 H2 μ2 d u e2 hd2 r2 ⟨l, m, hm2, hc, hl, t2⟩ => ?_⟩
    obtain ⟨_, ws, h3, h4⟩ := hd2.own p _ hm2
    obtain ⟨b, us, rfl, h5, h6⟩ := list_cat hd2 r2 hc
    have ex := ext_set (o := HO.lst (ws ++ us)) hd2 hm2
    exact ⟨p, b, ws, us, rfl, rfl, h3, h5, by rw [← h4.length, ← h6.length]; exact hl, k F2 _ _ .non .non ((e1.trans e2).trans ex) (hd2.set (m' := .lst (l ++ m)) hm2 ⟨_, upd_same, (h4.ext ex).append (h6.ext ex)⟩) rfl t2⟩⟩
end
end DL

set_option Elab.async false
set_option linter.all false
set_option maxRecDepth 100000
set_option maxHeartbeats 2000000
/-! DBG: d[k] += e; l.pop(0); l.count(x) -/
namespace DL
open PySem L2
def dsDAug (to ti tv : DTE) : DTS := fun E δ μ => to δ μ fun x μ1 => ti δ μ1 fun y μ2 => match x, keyD y with
  | .adr p, some k => ∃ kvs i, μ2 p = some (.dic kvs) ∧ valD kvs k = some (.int i) ∧ tv δ μ2 fun z μ3 => match z with
    | .int j => ∃ kvs2, μ3 p = some (.dic kvs2) ∧ kvs2.length < sizeLine ∧ E.nx δ (updM μ3 p (.dic (putKD kvs2 k (.int (i + j)))))
    | _ => False
  | _, _ => False
/-- l.pop(0) -/
def dPop0 (tl te : DTE) : DTE := fun δ μ q => tl δ μ fun x μ1 => match x with
  | .adr p => (∃ l, μ1 p = some (.lst l)) ∧ te δ μ1 fun y μ2 => y = .int 0 ∧ ∃ d l, μ2 p = some (.lst (d :: l)) ∧ q d (updM μ2 p (.lst l))
  | _ => False
/-- l.count(x), whole numbers -/
def dCount (tl te : DTE) : DTE := fun δ μ q => tl δ μ fun x μ1 => (∃ l, lstOf μ1 x = some l) ∧ te δ μ1 fun y μ2 => match y with
  | .int k => ∃ ns : List Int, lstOf μ2 x = some (ns.map D.int) ∧ q (.int (ns.count k : Nat)) μ2
  | _ => False
section
variable {O : Org} {X : Cx} {o i e value : Expr} {to ti te tl tv : DTE} {pos apos tpos : Pos}
theorem ds_daug (hu : X.A.units + 1 < cLine) (ho : DE O X o to) (hi : DE O X i ti) (hv : DE O X value tv)
    (ha : ∀ ov iv new, augStore i ov iv new = (do holding [new, ov, iv] (setItem ov iv new); release [new, ov, iv] []; pure .next) := by intro _ _ _; rfl) : DSt O X (.AugAssign (.Subscript o i tpos) .Add value pos) (dsDAug to ti tv) :=
  ps_weak (ps_daug hu ho hi hv in_add ha) fun Z σ H ⟨F, δ, μ, E, hd, rs, t, L⟩ => ⟨F, δ, μ, _, hd, rs, t, fun F1 H1 μ1 x v e1 hd1 r1 t1 => ⟨F1, δ, μ1, _, hd1, rs.ext e1, t1, fun F2 H2 μ2 y u e2 hd2 r2 t2 => by
    cases x <;> first | exact False.elim t2 | skip
    rename_i p
    obtain rfl : v = .ref p := r1
    cases hk : keyD y with
    | none => rw [hk] at t2; exact False.elim t2
    | some key =>
      rw [hk] at t2
      obtain ⟨kvs, n, hm, hval, t2⟩ := t2
      obtain ⟨_, vs, h1, h2⟩ := hd2.own p _ hm
      obtain rfl := rep_key hk r2
      obtain ⟨w, h3, h4⟩ := (val_rep (k := key) h2).1 _ hval
      obtain rfl : w = .int n := h4
      refine ⟨p, _, rfl, .inl ⟨_, key, .inl h1, rfl, h3.symm⟩, F2, δ, μ2, _, hd2, (rs.ext e1).ext e2, t2, fun F3 H3 μ3 z u3 e3 hd3 r3 t3 => ?_⟩
      cases z <;> first | exact False.elim t3 | skip
      rename_i j
      obtain rfl : u3 = .int j := r3
      obtain ⟨kvs2, hm3, hl, t3⟩ := t3
      obtain ⟨_, us, g1, g2⟩ := hd3.own p _ hm3
      have ll : ((kvs2.map (·.1)).zip us).length < sizeLine := by
        have := g2.length
        rw [List.length_map] at this
        rw [List.length_zip, List.length_map]; omega
      have ex := ext_set (o := HO.dK (putK ((kvs2.map (·.1)).zip us) key (.int (n + j)))) hd3 hm3
      obtain ⟨us', p1, p2⟩ := put_rep (K := X.K) (k := key) (d := .int (n + j)) (v := .int (n + j)) rep_int (g2.ext ex)
      refine ⟨n, j, rfl, rfl, _, DPut.k g1 ll, ?_⟩
      exact L.nx F3 _ _ δ σ (((e1.trans e2).trans e3).trans ex) (hd3.set (m' := .dic (putKD kvs2 key (.int (n + j)))) hm3 ⟨us', by rw [upd_same, p1], p2⟩) ((((rs.ext e1).ext e2).ext e3).ext ex) t3⟩⟩
theorem de_pop0 (h : PE X (.Call (.Attribute o "pop" apos) [e] [] pos) (tBM X.K "list" rPopAt (LE X.K O tl) (tCons (LE X.K O te) tNil))) : DE O X (.Call (.Attribute o "pop" apos) [e] [] pos) (dPop0 tl te) :=
  pe_weak h fun σ H Q ⟨F, δ, μ, q, hd, rs, t, k⟩ => ⟨F, δ, μ, _, hd, rs, t, fun F1 H1 μ1 x v e1 hd1 r1 t1 => by
    cases x <;> first | exact False.elim t1 | skip
    rename_i p
    obtain rfl : v = .ref p := r1
    obtain ⟨⟨l0, hm⟩, t1⟩ := t1
    obtain ⟨_, vs, h1, h2⟩ := hd1.own p _ hm
    refine ⟨.inl ⟨rfl, vs, SqL.of h1⟩, F1, δ, μ1, _, hd1, rs.ext e1, t1, fun F2 H2 μ2 y u e2 hd2 r2 ⟨ey, d, l, hm2, t2⟩ => ?_⟩
    subst ey
    obtain rfl : u = .int 0 := r2
    obtain ⟨_, ws, h3, w, r, rfl, h4, h5⟩ := hd2.own p _ hm2
    have ex := ext_set (o := HO.lst r) hd2 hm2
    exact ⟨p, w :: r, 0, 0, w, rfl, rfl, h3, by decide, by decide, by unfold seqIndex?; simp, rfl, k F2 _ _ d w ((e1.trans e2).trans ex) (hd2.set (m' := .lst l) hm2 ⟨_, upd_same, h5.ext ex⟩) (Rep.ext ex d w h4) t2⟩⟩
theorem de_count (h : PE X (.Call (.Attribute o "count" apos) [e] [] pos) (tBM X.K "list" (rCntI X.K) (LE X.K O tl) (tCons (LE X.K O te) tNil))) : DE O X (.Call (.Attribute o "count" apos) [e] [] pos) (dCount tl te) :=
  pe_weak h fun σ H Q ⟨F, δ, μ, q, hd, rs, t, k⟩ => ⟨F, δ, μ, _, hd, rs, t, fun F1 H1 μ1 x v e1 hd1 r1 ⟨⟨l0, hl0⟩, t1⟩ => by
    obtain ⟨a, vs, rfl, h1, h2⟩ := list_sq hd1 r1 hl0
    refine ⟨.inl ⟨rfl, vs, h1⟩, F1, δ, μ1, _, hd1, rs.ext e1, t1, fun F2 H2 μ2 y u e2 hd2 r2 t2 => ?_⟩
    cases y <;> first | exact False.elim t2 | skip
    rename_i n
    obtain rfl : u = .int n := r2
    obtain ⟨ns, hl, t2⟩ := t2
    obtain ⟨b, ws, eb, g1, g2⟩ := list_sq hd2 (Rep.ext e2 x (.ref a) r1) hl
    cases eb
    obtain rfl := g2.ints
    exact ⟨a, ns, n, rfl, rfl, g1, k F2 H2 μ2 _ _ (e1.trans e2) hd2 rep_int t2⟩⟩
end
end DL

set_option linter.all false
set_option maxRecDepth 100000
namespace Law
open PySem L2 DL
structure Cls where
  InvalidAccess : Addr
  InvalidBarrier : Addr
  InvalidGuard : Addr
  InvalidLanes : Addr
  InvalidNumber : Addr
  InvalidStatement : Addr
  Doing : Addr
  Kernel : Addr
  d_ACCESSES : Addr
  d_ARRAYS : Addr
  d_ITEMS : Addr
def tab_ACCESSES : List (Str × D) := [("put", .tup [.int 2]), ("move", .tup [.int 5, .int 2]), ("sum", .tup [.int 5, .int 8, .int 2])]
def miss_ACCESSES : List Str := []
def tab_ARRAYS : List (Str × D) := [("put", .tup [.int 2]), ("move", .tup [.int 2, .int 5]), ("sum", .tup [.int 2, .int 5, .int 8])]
def miss_ARRAYS : List Str := []
def tab_ITEMS : List (Str × D) := [("put", .int 7), ("move", .int 9), ("sum", .int 11)]
def miss_ITEMS : List Str := []
/-! is_guard: 0 guard 1 low 2 high 3 step 4 rest -/
@[reducible] def rd_is_guard (A : Cls) (e : DX) : DTS := (dSeq (dAsg (dVar 0) (dgTup 4 (dgCons (dgName 1) (dgCons (dgName 2) (dgCons (dgName 3) (dgCons (dgName 4) dgNil))))))
    (dRet (dAndT (dChain rLeX rLeX (dC (.int 0)) (dVar 1) (dVar 2)) (dChain rLeX rLtD (dC (.int 0)) (dVar 4) (dVar 3)))))
/-! check_guard: 0 guard -/
@[reducible] def rd_check_guard (A : Cls) (c_is_guard : DSp) (e : DX) : DTS := (dIfS (dNot (dTru (dCall c_is_guard e [] (dCons (dVar 0) dNil)))) (dRaise A.InvalidGuard (dVar 0) e) dNext)
/-! first_from: 0 low 1 step 2 rest -/
@[reducible] def rd_first_from (A : Cls) (e : DX) : DTS := (dRet (dOp rAddD (dVar 0) (dOp rModD (dOp rSubD (dVar 2) (dVar 0)) (dVar 1))))
/-! count_lanes: 0 guard 1 low 2 high 3 step 4 rest 5 first -/
@[reducible] def rd_count_lanes (A : Cls) (c_check_guard : DSp) (c_first_from : DSp) (e : DX) : DTS := (dSeq (dDrop (dCall c_check_guard e [] (dCons (dVar 0) dNil)))
    (dSeq (dAsg (dVar 0) (dgTup 4 (dgCons (dgName 1) (dgCons (dgName 2) (dgCons (dgName 3) (dgCons (dgName 4) dgNil))))))
    (dSeq (dAsg (dCall c_first_from e [] (dCons (dVar 1) (dCons (dVar 3) (dCons (dVar 4) dNil)))) (dgName 5))
    (dRet (dOp rDivD (dOp rSubD (dOp rAddD (dOp rSubD (dVar 2) (dVar 5)) (dVar 3)) (dC (.int 1))) (dVar 3))))))
/-! nth_lane: 0 guard 1 number 2 many 3 low 4 _ 5 step 6 rest -/
@[reducible] def rd_nth_lane (A : Cls) (c_count_lanes : DSp) (c_first_from : DSp) (e : DX) : DTS := (dSeq (dAsg (dCall c_count_lanes e [] (dCons (dVar 0) dNil)) (dgName 2))
    (dSeq (dIfS (dOr (dTest (dOp rLtD (dVar 1) (dC (.int 0)))) (dTest (dOp rGeD (dVar 1) (dVar 2)))) (dRaise A.InvalidNumber (dVar 1) e) dNext)
    (dSeq (dAsg (dVar 0) (dgTup 4 (dgCons (dgName 3) (dgCons (dgName 4) (dgCons (dgName 5) (dgCons (dgName 6) dgNil))))))
    (dRet (dOp rAddD (dCall c_first_from e [] (dCons (dVar 3) (dCons (dVar 5) (dCons (dVar 6) dNil)))) (dOp rMulD (dVar 1) (dVar 5)))))))
/-! has_lane: 0 guard 1 lane 2 low 3 high 4 step 5 rest -/
@[reducible] def rd_has_lane (A : Cls) (c_check_guard : DSp) (e : DX) : DTS := (dSeq (dDrop (dCall c_check_guard e [] (dCons (dVar 0) dNil)))
    (dSeq (dAsg (dVar 0) (dgTup 4 (dgCons (dgName 2) (dgCons (dgName 3) (dgCons (dgName 4) (dgCons (dgName 5) dgNil))))))
    (dRet (dAndT (dChain rLeX rLtD (dVar 2) (dVar 1) (dVar 3)) (dOp rEqG (dOp rModD (dVar 1) (dVar 4)) (dVar 5))))))
/-! cut: 0 guard 1 low 2 high -/
@[reducible] def rd_cut (A : Cls) (e : DX) : DTS := (dSeq (dAsg (dCB rMax2D (dCons (dVar 1) (dCons (dOp rIxG (dVar 0) (dC (.int 0))) dNil))) (dgName 1))
    (dRet (dTup (dCons (dVar 1) (dCons (dCB rMax2D (dCons (dVar 1) (dCons (dCB rMin2D (dCons (dVar 2) (dCons (dOp rIxG (dVar 0) (dC (.int 1))) dNil))) dNil))) (dCons (dOp rIxG (dVar 0) (dC (.int 2))) (dCons (dOp rIxG (dVar 0) (dC (.int 3))) dNil)))))))
/-! is_array_name: 0 name 1 letter -/
@[reducible] def rd_is_array_name (A : Cls) (e : DX) : DTS := (dRet (dAndT (dChain rLeX rLeX (dC (.int 1)) (dCB rLenD (dCons (dVar 0) dNil)) (dC (.int 8))) (dCB rAllD (dCons (dLc (diSq (dVar 0)) (dgName 1) dYes (dChain rLeX rLeX (dC (.str "a")) (dVar 1) (dC (.str "z"))) [1]) dNil))))
/-! is_statement: 0 statement 1 lanes 2 word 3 guard 4 place -/
@[reducible] def rd_is_statement (A : Cls) (c_is_array_name : DSp) (c_is_guard : DSp) (e : DX) : DTS := (dSeq (dAsg (dOp rIxG (dVar 0) (dC (.int 0))) (dgName 2))
    (dSeq (dIfS (dOr (dTest (dOp (rKdIn true A.d_ITEMS tab_ITEMS miss_ITEMS) (dVar 2) (dC (.adr A.d_ITEMS)))) (dTest (dOp rNeG (dCB rLenD (dCons (dVar 0) dNil)) (dOp (rKdIx A.d_ITEMS tab_ITEMS) (dC (.adr A.d_ITEMS)) (dVar 2))))) (dRet (dC (.bl false))) dNext)
    (dSeq (dIfS (dNot (dTru (dCB rAllD (dCons (dLc (diSq (dOp (rKdIx A.d_ARRAYS tab_ARRAYS) (dC (.adr A.d_ARRAYS)) (dVar 2))) (dgName 4) dYes (dCall c_is_array_name eN [] (dCons (dOp rIxG (dVar 0) (dVar 4)) dNil)) [4]) dNil)))) (dRet (dC (.bl false))) dNext)
    (dSeq (dAsg (dOp rIxG (dVar 0) (dC (.int 1))) (dgName 3))
    (dRet (dAndT (dCall c_is_guard e [] (dCons (dVar 3) dNil)) (dOp rLeX (dOp rIxG (dVar 3) (dC (.int 1))) (dVar 1))))))))
/-! count_up_to: 0 barriers 1 statement 2 barrier -/
@[reducible] def rd_count_up_to (A : Cls) (e : DX) : DTS := (dRet (dCB rLenD (dCons (dLc (diSq (dVar 0)) (dgName 2) (dTest (dOp rLeX (dVar 2) (dVar 1))) (dVar 2) [2]) dNil)))
/-! check_wave: 0 wave -/
@[reducible] def rd_check_wave (A : Cls) (e : DX) : DTS := (dIfS (dOr (dTest (dOp rLtD (dVar 0) (dC (.int 1)))) (dTest (dOp rGtD (dVar 0) (dC (.int 32))))) (dRaise A.InvalidNumber (dVar 0) e) dNext)
/-! check_statement_number: 0 kernel 1 statement -/
@[reducible] def rd_check_statement_number (A : Cls) (c_Kernel___len__ : DSp) (e : DX) : DTS := (dIfS (dOr (dTest (dOp rLtD (dVar 1) (dC (.int 0)))) (dTest (dOp rGeD (dVar 1) (dCB (rLenX A.Kernel c_Kernel___len__) (dCons (dVar 0) dNil))))) (dRaise A.InvalidNumber (dVar 1) e) dNext)
/-! check_number_of_wave: 0 kernel 1 wave 2 number -/
@[reducible] def rd_check_number_of_wave (A : Cls) (c_Kernel_lanes : DSp) (e : DX) : DTS := (dIfS (dOr (dTest (dOp rLtD (dVar 2) (dC (.int 0)))) (dTest (dOp rGeD (dOp rMulD (dVar 1) (dVar 2)) (dProp A.Kernel c_Kernel_lanes (dVar 0))))) (dRaise A.InvalidNumber (dVar 2) e) dNext)
/-! Doing___init__: 0 self 1 number 2 statement 3 place 4 phase 5 puts -/
@[reducible] def rd_Doing___init__ (A : Cls) (e : DX) : DTS := (dSeq (dsFld A.Doing "number" (dVar 0) (dVar 1))
    (dSeq (dsFld A.Doing "phase" (dVar 0) (dVar 4))
    (dSeq (dsFld A.Doing "array" (dVar 0) (dOp rIxG (dVar 2) (dVar 3)))
    (dSeq (dsFld A.Doing "writes" (dVar 0) (dOp rEqG (dVar 3) (dC (.int 2))))
    (dSeq (dAsg (dIf (dTest (dOp rEqG (dOp rIxG (dVar 2) (dC (.int 0))) (dC (.str "put")))) (dSl (dVar 2) (dPart (dC (.int 5))) dNoPart) (dC .non)) (dgName 5))
    (dsFld A.Doing "side" (dVar 0) (dTup (dCons (dOp rIxG (dVar 2) (dC (.int 1))) (dCons (dOp rIxG (dVar 2) (dOp rAddD (dVar 3) (dC (.int 1)))) (dCons (dOp rIxG (dVar 2) (dOp rAddD (dVar 3) (dC (.int 2)))) (dCons (dVar 5) dNil)))))))))))
/-! doing_at: 0 kernel 1 number 2 left 3 at 4 statement 5 places -/
@[reducible] def rd_doing_at (A : Cls) (c_Doing___init__ : DSp) (c_Kernel_barriers : DSp) (c_Kernel_statements : DSp) (c_count_up_to : DSp) (e : DX) : DTS := (dSeq (dAsg (dVar 1) (dgName 2))
    (dSeq (dFor (diEnX (dCons (dProp A.Kernel c_Kernel_statements (dVar 0)) dNil)) (dgTup 2 (dgCons (dgName 3) (dgCons (dgName 4) dgNil))) (dSeq (dAsg (dOp (rKdIx A.d_ACCESSES tab_ACCESSES) (dC (.adr A.d_ACCESSES)) (dOp rIxG (dVar 4) (dC (.int 0)))) (dgName 5))
    (dSeq (dIfS (dTest (dChain rLeX rLtD (dC (.int 0)) (dVar 2) (dCB rLenD (dCons (dVar 5) dNil)))) (dRet (dMakeZ A.Doing c_Doing___init__ e [] (dCons (dVar 1) (dCons (dVar 4) (dCons (dOp rIxG (dVar 5) (dVar 2)) (dCons (dCall c_count_up_to e [] (dCons (dProp A.Kernel c_Kernel_barriers (dVar 0)) (dCons (dVar 3) dNil))) dNil)))))) dNext)
    (dAug 2 (dCB rLenD (dCons (dVar 5) dNil)) (fun i j => i - j)))))
    (dRaise A.InvalidAccess (dVar 1) e)))
/-! lanes_of_wave: 0 guard 1 wave 2 number -/
@[reducible] def rd_lanes_of_wave (A : Cls) (c_cut : DSp) (e : DX) : DTS := (dRet (dCall c_cut e [] (dCons (dVar 0) (dCons (dOp rMulD (dVar 1) (dVar 2)) (dCons (dOp rAddD (dOp rMulD (dVar 1) (dVar 2)) (dVar 1)) dNil)))))
/-! waves_with_lanes: 0 guard 1 wave 2 many -/
@[reducible] def rd_waves_with_lanes (A : Cls) (c_count_lanes : DSp) (c_nth_lane : DSp) (e : DX) : DTS := (dSeq (dAsg (dCall c_count_lanes e [] (dCons (dVar 0) dNil)) (dgName 2))
    (dSeq (dIfS (dOr (dTest (dOp rEqG (dVar 2) (dC (.int 0)))) (dTest (dOp rGeD (dOp rIxG (dVar 0) (dC (.int 2))) (dVar 1)))) (dRet (dVar 2)) dNext)
    (dRet (dOp rAddD (dOp rSubD (dOp rDivD (dCall c_nth_lane e [] (dCons (dVar 0) (dCons (dOp rSubD (dVar 2) (dC (.int 1))) dNil))) (dVar 1)) (dOp rDivD (dCall c_nth_lane e [] (dCons (dVar 0) (dCons (dC (.int 0)) dNil))) (dVar 1))) (dC (.int 1))))))
/-! waves_by_lanes: 0 guard 1 wave 2 low 3 high 4 step 5 _ 6 first 7 last 8 ends 9 found 10 period 11 between 12 turn 13 lanes 14 number -/
@[reducible] def rd_waves_by_lanes (A : Cls) (c_count_lanes : DSp) (c_lanes_of_wave : DSp) (e : DX) : DTS := (dSeq (dAsg (dVar 0) (dgTup 4 (dgCons (dgName 2) (dgCons (dgName 3) (dgCons (dgName 4) (dgCons (dgName 5) dgNil))))))
    (dSeq (dIfS (dTest (dOp rGeD (dVar 4) (dVar 1))) (dRet (dLst (dCons (dTup (dCons (dC (.int 1)) (dCons (dCall c_count_lanes e [] (dCons (dVar 0) dNil)) dNil))) dNil))) dNext)
    (dSeq (dIfS (dTest (dOp rEqG (dVar 2) (dVar 3))) (dRet (dLst dNil)) dNext)
    (dSeq (dPar 6 7 (dCons (dOp rDivD (dVar 2) (dVar 1)) (dCons (dOp rDivD (dOp rSubD (dVar 3) (dC (.int 1))) (dVar 1)) dNil)))
    (dSeq (dAsg (dIf (dTest (dOp rEqG (dVar 6) (dVar 7))) (dLst (dCons (dVar 6) dNil)) (dLst (dCons (dVar 6) (dCons (dVar 7) dNil)))) (dgName 8))
    (dSeq (dAsg (dLcM (diSq (dVar 8)) (dgName 14) dYes (dTup (dCons (dCall c_count_lanes eN [] (dCons (dCall c_lanes_of_wave eN [] (dCons (dVar 0) (dCons (dVar 1) (dCons (dVar 14) dNil)))) dNil)) (dCons (dC (.int 1)) dNil))) [14]) (dgName 9))
    (dSeq (dPar 10 11 (dCons (dOp rDivD (dVar 4) (dCB rGcdD (dCons (dVar 4) (dCons (dVar 1) dNil)))) (dCons (dOp rSubD (dOp rSubD (dVar 7) (dVar 6)) (dC (.int 1))) dNil)))
    (dSeq (dFor (diRw1 (dCons (dCB rMin2D (dCons (dVar 10) (dCons (dVar 11) dNil))) dNil)) (dgName 12) (dSeq (dAsg (dCall c_count_lanes e [] (dCons (dCall c_lanes_of_wave e [] (dCons (dVar 0) (dCons (dVar 1) (dCons (dOp rAddD (dOp rAddD (dVar 6) (dC (.int 1))) (dVar 12)) dNil)))) dNil)) (dgName 13))
    (dDrop (dAppend (dVar 9) (dTup (dCons (dVar 13) (dCons (dOp rDivD (dOp rSubD (dOp rAddD (dOp rSubD (dVar 11) (dVar 12)) (dVar 10)) (dC (.int 1))) (dVar 10)) dNil)))))))
    (dRet (dVarF 9))))))))))
/-! count_waves: 0 kernel 1 statement 2 wave -/
@[reducible] def rd_count_waves (A : Cls) (c_Kernel_statements : DSp) (c_check_statement_number : DSp) (c_check_wave : DSp) (c_waves_with_lanes : DSp) (e : DX) : DTS := (dSeq (dDrop (dCall c_check_statement_number e [] (dCons (dVar 0) (dCons (dVar 1) dNil))))
    (dSeq (dDrop (dCall c_check_wave e [] (dCons (dVar 2) dNil)))
    (dRet (dCall c_waves_with_lanes e [] (dCons (dOp rIxG (dOp rIxG (dProp A.Kernel c_Kernel_statements (dVar 0)) (dVar 1)) (dC (.int 1))) (dCons (dVar 2) dNil))))))
/-! full_waves: 0 kernel 1 statement 2 wave 3 guard 4 lanes 5 low 6 high 7 step 8 _ 9 behind -/
@[reducible] def rd_full_waves (A : Cls) (c_Kernel_lanes : DSp) (c_Kernel_statements : DSp) (c_check_statement_number : DSp) (c_check_wave : DSp) (c_count_lanes : DSp) (c_has_lane : DSp) (e : DX) : DTS := (dSeq (dDrop (dCall c_check_statement_number e [] (dCons (dVar 0) (dCons (dVar 1) dNil))))
    (dSeq (dDrop (dCall c_check_wave e [] (dCons (dVar 2) dNil)))
    (dSeq (dPar 3 4 (dCons (dOp rIxG (dOp rIxG (dProp A.Kernel c_Kernel_statements (dVar 0)) (dVar 1)) (dC (.int 1))) (dCons (dProp A.Kernel c_Kernel_lanes (dVar 0)) dNil)))
    (dSeq (dAsg (dVar 3) (dgTup 4 (dgCons (dgName 5) (dgCons (dgName 6) (dgCons (dgName 7) (dgCons (dgName 8) dgNil))))))
    (dSeq (dIfS (dTest (dOp rEqG (dVar 2) (dC (.int 1)))) (dRet (dCall c_count_lanes e [] (dCons (dVar 3) dNil))) dNext)
    (dSeq (dIfS (dTest (dOp rGtD (dVar 7) (dC (.int 1)))) (dRet (dIf (dAnd (dTest (dOp rEqG (dOp rModD (dOp rSubD (dVar 4) (dC (.int 1))) (dVar 2)) (dC (.int 0)))) (dTru (dCall c_has_lane e [] (dCons (dVar 3) (dCons (dOp rSubD (dVar 4) (dC (.int 1))) dNil))))) (dC (.int 1)) (dC (.int 0)))) dNext)
    (dSeq (dAsg (dIf (dTest (dOp rEqG (dVar 6) (dVar 4))) (dOp rDivD (dOp rSubD (dOp rAddD (dVar 6) (dVar 2)) (dC (.int 1))) (dVar 2)) (dOp rDivD (dVar 6) (dVar 2))) (dgName 9))
    (dRet (dCB rMax2D (dCons (dC (.int 0)) (dCons (dOp rSubD (dVar 9) (dOp rDivD (dOp rSubD (dOp rAddD (dVar 5) (dVar 2)) (dC (.int 1))) (dVar 2))) dNil)))))))))))
/-! lanes_in_wave: 0 kernel 1 statement 2 wave 3 number -/
@[reducible] def rd_lanes_in_wave (A : Cls) (c_Kernel_statements : DSp) (c_check_number_of_wave : DSp) (c_check_statement_number : DSp) (c_check_wave : DSp) (c_count_lanes : DSp) (c_lanes_of_wave : DSp) (e : DX) : DTS := (dSeq (dDrop (dCall c_check_statement_number e [] (dCons (dVar 0) (dCons (dVar 1) dNil))))
    (dSeq (dDrop (dCall c_check_wave e [] (dCons (dVar 2) dNil)))
    (dSeq (dDrop (dCall c_check_number_of_wave e [] (dCons (dVar 0) (dCons (dVar 2) (dCons (dVar 3) dNil)))))
    (dRet (dCall c_count_lanes e [] (dCons (dCall c_lanes_of_wave e [] (dCons (dOp rIxG (dOp rIxG (dProp A.Kernel c_Kernel_statements (dVar 0)) (dVar 1)) (dC (.int 1))) (dCons (dVar 2) (dCons (dVar 3) dNil)))) dNil))))))
/-! check_banks: 0 banks -/
@[reducible] def rd_check_banks (A : Cls) (e : DX) : DTS := (dIfS (dOr (dTest (dOp rLtD (dVar 0) (dC (.int 1)))) (dTest (dOp rGtD (dVar 0) (dC (.int 4096))))) (dRaise A.InvalidNumber (dVar 0) e) dNext)
/-! degree_of_lanes: 0 lanes 1 move 2 banks 3 period -/
@[reducible] def rd_degree_of_lanes (A : Cls) (e : DX) : DTS := (dSeq (dIfS (dTest (dOp rEqG (dVar 1) (dC (.int 0)))) (dRet (dCB rMin2D (dCons (dVar 0) (dCons (dC (.int 1)) dNil)))) dNext)
    (dSeq (dAsg (dOp rDivD (dVar 2) (dCB rGcdD (dCons (dVar 1) (dCons (dVar 2) dNil)))) (dgName 3))
    (dRet (dOp rDivD (dOp rSubD (dOp rAddD (dVar 0) (dVar 3)) (dC (.int 1))) (dVar 3)))))
/-! degrees: 0 kernel 1 access 2 wave 3 banks 4 guard 5 a 6 _ 7 lanes 8 waves -/
@[reducible] def rd_degrees (A : Cls) (c_check_banks : DSp) (c_check_wave : DSp) (c_degree_of_lanes : DSp) (c_doing_at : DSp) (c_waves_by_lanes : DSp) (e : DX) : DTS := (dSeq (dAsg (dFld A.Doing "side" (dCall c_doing_at e [] (dCons (dVar 0) (dCons (dVar 1) dNil)))) (dgTup 4 (dgCons (dgName 4) (dgCons (dgName 5) (dgCons (dgName 6) (dgCons (dgName 6) dgNil))))))
    (dSeq (dDrop (dCall c_check_wave e [] (dCons (dVar 2) dNil)))
    (dSeq (dDrop (dCall c_check_banks e [] (dCons (dVar 3) dNil)))
    (dRet (dLc (diSq (dCall c_waves_by_lanes e [] (dCons (dVar 4) (dCons (dVar 2) dNil)))) (dgTup 2 (dgCons (dgName 7) (dgCons (dgName 8) dgNil))) dYes (dTup (dCons (dCall c_degree_of_lanes eN [] (dCons (dVar 7) (dCons (dOp rMulD (dVar 5) (dOp rIxG (dVar 4) (dC (.int 2)))) (dCons (dVar 3) dNil)))) (dCons (dVar 8) dNil))) [7, 8])))))
/-! degree_of_wave: 0 kernel 1 access 2 wave 3 banks 4 number 5 guard 6 a 7 _ -/
@[reducible] def rd_degree_of_wave (A : Cls) (c_check_banks : DSp) (c_check_number_of_wave : DSp) (c_check_wave : DSp) (c_count_lanes : DSp) (c_degree_of_lanes : DSp) (c_doing_at : DSp) (c_lanes_of_wave : DSp) (e : DX) : DTS := (dSeq (dAsg (dFld A.Doing "side" (dCall c_doing_at e [] (dCons (dVar 0) (dCons (dVar 1) dNil)))) (dgTup 4 (dgCons (dgName 5) (dgCons (dgName 6) (dgCons (dgName 7) (dgCons (dgName 7) dgNil))))))
    (dSeq (dDrop (dCall c_check_wave e [] (dCons (dVar 2) dNil)))
    (dSeq (dDrop (dCall c_check_banks e [] (dCons (dVar 3) dNil)))
    (dSeq (dDrop (dCall c_check_number_of_wave e [] (dCons (dVar 0) (dCons (dVar 2) (dCons (dVar 4) dNil)))))
    (dRet (dCall c_degree_of_lanes e [] (dCons (dCall c_count_lanes e [] (dCons (dCall c_lanes_of_wave e [] (dCons (dVar 5) (dCons (dVar 2) (dCons (dVar 4) dNil)))) dNil)) (dCons (dOp rMulD (dVar 6) (dOp rIxG (dVar 5) (dC (.int 2)))) (dCons (dVar 3) dNil)))))))))
/-! total_degree: 0 kernel 1 access 2 wave 3 banks 4 degree 5 waves -/
@[reducible] def rd_total_degree (A : Cls) (c_degrees : DSp) (e : DX) : DTS := (dRet (dCB rSumD (dCons (dLc (diSq (dCall c_degrees e [] (dCons (dVar 0) (dCons (dVar 1) (dCons (dVar 2) (dCons (dVar 3) dNil)))))) (dgTup 2 (dgCons (dgName 4) (dgCons (dgName 5) dgNil))) dYes (dOp rMulD (dVar 4) (dVar 5)) [4, 5]) dNil)))
/-! greatest_degree: 0 kernel 1 access 2 wave 3 banks 4 degree 5 waves -/
@[reducible] def rd_greatest_degree (A : Cls) (c_degrees : DSp) (e : DX) : DTS := (dRet (dMaxD (dCons (dLc (diSq (dCall c_degrees e [] (dCons (dVar 0) (dCons (dVar 1) (dCons (dVar 2) (dCons (dVar 3) dNil)))))) (dgTup 2 (dgCons (dgName 4) (dgCons (dgName 5) dgNil))) (dTest (dOp rGtD (dVar 5) (dC (.int 0)))) (dVar 4) [4, 5]) dNil) (dCons (dC (.int 0)) dNil)))
/-! check_lanes: 0 lanes -/
@[reducible] def rd_check_lanes (A : Cls) (e : DX) : DTS := (dIfS (dTest (dOp rLtD (dVar 0) (dC (.int 1)))) (dRaise A.InvalidLanes (dVar 0) e) dNext)
/-! check_statement: 0 statement 1 number 2 lanes -/
@[reducible] def rd_check_statement (A : Cls) (c_is_statement : DSp) (e : DX) : DTS := (dIfS (dNot (dTru (dCall c_is_statement e [] (dCons (dVar 0) (dCons (dVar 2) dNil))))) (dRaise A.InvalidStatement (dVar 1) e) dNext)
/-! check_barriers: 0 barriers 1 many 2 before 3 number 4 barrier -/
@[reducible] def rd_check_barriers (A : Cls) (e : DX) : DTS := (dSeq (dAsg (dC (.int 0)) (dgName 2))
    (dFor (diEnX (dCons (dVar 0) dNil)) (dgTup 2 (dgCons (dgName 3) (dgCons (dgName 4) dgNil))) (dSeq (dIfS (dOr (dTest (dOp rLeX (dVar 4) (dVar 2))) (dTest (dOp rGeD (dVar 4) (dVar 1)))) (dRaise A.InvalidBarrier (dVar 3) e) dNext)
    (dAsg (dVar 4) (dgName 2)))))
/-! Kernel___init__: 0 self 1 lanes 2 statements 3 barriers 4 number 5 statement -/
@[reducible] def rd_Kernel___init__ (A : Cls) (c_check_barriers : DSp) (c_check_lanes : DSp) (c_check_statement : DSp) (e : DX) : DTS := (dSeq (dDrop (dCall c_check_lanes e [] (dCons (dVar 1) dNil)))
    (dSeq (dFor (diEnX (dCons (dVar 2) dNil)) (dgTup 2 (dgCons (dgName 4) (dgCons (dgName 5) dgNil))) (dDrop (dCall c_check_statement e [] (dCons (dVar 5) (dCons (dVar 4) (dCons (dVar 1) dNil))))))
    (dSeq (dDrop (dCall c_check_barriers e [] (dCons (dVar 3) (dCons (dCB rLenD (dCons (dVar 2) dNil)) dNil))))
    (dSeq (dsFld A.Kernel "_lanes" (dVar 0) (dVar 1))
    (dSeq (dsFld A.Kernel "_statements" (dVar 0) (dCB rListD (dCons (dVar 2) dNil)))
    (dSeq (dsFld A.Kernel "_barriers" (dVar 0) (dCB rListD (dCons (dVar 3) dNil)))
    (dsFld A.Kernel "_racing" (dVar 0) (dC .non))))))))
/-! Kernel_lanes: 0 self -/
@[reducible] def rd_Kernel_lanes (A : Cls) (e : DX) : DTS := (dRet (dFld A.Kernel "_lanes" (dVar 0)))
/-! Kernel_statements: 0 self -/
@[reducible] def rd_Kernel_statements (A : Cls) (e : DX) : DTS := (dRet (dCB rListD (dCons (dFld A.Kernel "_statements" (dVar 0)) dNil)))
/-! Kernel_barriers: 0 self -/
@[reducible] def rd_Kernel_barriers (A : Cls) (e : DX) : DTS := (dRet (dCB rListD (dCons (dFld A.Kernel "_barriers" (dVar 0)) dNil)))
/-! Kernel___len__: 0 self -/
@[reducible] def rd_Kernel___len__ (A : Cls) (e : DX) : DTS := (dRet (dCB rLenD (dCons (dFld A.Kernel "_statements" (dVar 0)) dNil)))
/-! sum_of_quotients: 0 many 1 divisor 2 factor 3 start 4 total 5 top -/
@[reducible] def rd_sum_of_quotients (A : Cls) (e : DX) : DTS := (dSeq (dAsg (dC (.int 0)) (dgName 4))
    (dSeq (dWhile (dTest (dOp rGtD (dVar 0) (dC (.int 0)))) (dSeq (dAug 4 (dOp rAddD (dOp rMulD (dOp rDivD (dOp rMulD (dVar 0) (dOp rSubD (dVar 0) (dC (.int 1)))) (dC (.int 2))) (dOp rDivD (dVar 2) (dVar 1))) (dOp rMulD (dVar 0) (dOp rDivD (dVar 3) (dVar 1)))) (fun i j => i + j))
    (dSeq (dPar 2 3 (dCons (dOp rModD (dVar 2) (dVar 1)) (dCons (dOp rModD (dVar 3) (dVar 1)) dNil)))
    (dSeq (dAsg (dOp rAddD (dOp rMulD (dVar 2) (dVar 0)) (dVar 3)) (dgName 5))
    (dSeq (dPar 0 3 (dCons (dOp rDivD (dVar 5) (dVar 1)) (dCons (dOp rModD (dVar 5) (dVar 1)) dNil)))
    (dPar 1 2 (dCons (dVar 2) (dCons (dVar 1) dNil))))))))
    (dRet (dVar 4))))
/-! check_size: 0 size -/
@[reducible] def rd_check_size (A : Cls) (e : DX) : DTS := (dIfS (dTest (dOp rLtD (dVar 0) (dC (.int 1)))) (dRaise A.InvalidNumber (dVar 0) e) dNext)
/-! lines_of_wave: 0 kernel 1 access 2 wave 3 size 4 number 5 guard 6 a 7 b 8 _ 9 lanes 10 place -/
@[reducible] def rd_lines_of_wave (A : Cls) (c_check_number_of_wave : DSp) (c_check_size : DSp) (c_check_wave : DSp) (c_count_lanes : DSp) (c_doing_at : DSp) (c_lanes_of_wave : DSp) (c_nth_lane : DSp) (e : DX) : DTS := (dSeq (dAsg (dFld A.Doing "side" (dCall c_doing_at e [] (dCons (dVar 0) (dCons (dVar 1) dNil)))) (dgTup 4 (dgCons (dgName 5) (dgCons (dgName 6) (dgCons (dgName 7) (dgCons (dgName 8) dgNil))))))
    (dSeq (dDrop (dCall c_check_wave e [] (dCons (dVar 2) dNil)))
    (dSeq (dDrop (dCall c_check_size e [] (dCons (dVar 3) dNil)))
    (dSeq (dDrop (dCall c_check_number_of_wave e [] (dCons (dVar 0) (dCons (dVar 2) (dCons (dVar 4) dNil)))))
    (dSeq (dAsg (dCall c_lanes_of_wave e [] (dCons (dVar 5) (dCons (dVar 2) (dCons (dVar 4) dNil)))) (dgName 9))
    (dRet (dSetN (diRw1 (dCons (dCall c_count_lanes e [] (dCons (dVar 9) dNil)) dNil)) (dgName 10) dYes (dOp rDivD (dOp rAddD (dOp rMulD (dVar 6) (dCall c_nth_lane eN [] (dCons (dVar 9) (dCons (dVar 10) dNil)))) (dVar 7)) (dVar 3)) [10])))))))
/-! count_changes: 0 side 1 wave 2 size 3 guard 4 a 5 b 6 _ 7 step 8 neighbours 9 period 10 total 11 place 12 lane 13 many 14 cell 15 move 16 ahead -/
@[reducible] def rd_count_changes (A : Cls) (c_count_lanes : DSp) (c_nth_lane : DSp) (c_sum_of_quotients : DSp) (e : DX) : DTS := (dSeq (dAsg (dVar 0) (dgTup 4 (dgCons (dgName 3) (dgCons (dgName 4) (dgCons (dgName 5) (dgCons (dgName 6) dgNil))))))
    (dSeq (dPar 7 8 (dCons (dOp rIxG (dVar 3) (dC (.int 2))) (dCons (dOp rSubD (dCall c_count_lanes e [] (dCons (dVar 3) dNil)) (dC (.int 1))) dNil)))
    (dSeq (dAsg (dOp rDivD (dVar 1) (dCB rGcdD (dCons (dVar 7) (dCons (dVar 1) dNil)))) (dgName 9))
    (dSeq (dAsg (dC (.int 0)) (dgName 10))
    (dSeq (dFor (diRw1 (dCons (dCB rMin2D (dCons (dVar 9) (dCons (dVar 8) dNil))) dNil)) (dgName 11) (dSeq (dAsg (dCall c_nth_lane e [] (dCons (dVar 3) (dCons (dVar 11) dNil))) (dgName 12))
    (dIfS (dTest (dOp rEqG (dOp rDivD (dVar 12) (dVar 1)) (dOp rDivD (dOp rAddD (dVar 12) (dVar 7)) (dVar 1)))) (dSeq (dAsg (dOp rDivD (dOp rSubD (dOp rAddD (dOp rSubD (dVar 8) (dVar 11)) (dVar 9)) (dC (.int 1))) (dVar 9)) (dgName 13))
    (dSeq (dPar 14 15 (dCons (dOp rAddD (dOp rMulD (dVar 4) (dVar 12)) (dVar 5)) (dCons (dOp rMulD (dVar 4) (dVar 7)) dNil)))
    (dSeq (dAsg (dCall c_sum_of_quotients e [] (dCons (dVar 13) (dCons (dVar 2) (dCons (dOp rMulD (dVar 15) (dVar 9)) (dCons (dVar 14) dNil))))) (dgName 16))
    (dAug 10 (dCB rAbsD (dCons (dOp rSubD (dCall c_sum_of_quotients e [] (dCons (dVar 13) (dCons (dVar 2) (dCons (dOp rMulD (dVar 15) (dVar 9)) (dCons (dOp rAddD (dVar 14) (dVar 15)) dNil))))) (dVar 16)) dNil)) (fun i j => i + j))))) dNext)))
    (dRet (dVar 10)))))))
/-! count_lines: 0 kernel 1 access 2 wave 3 size 4 side 5 guard 6 a 7 _ -/
@[reducible] def rd_count_lines (A : Cls) (c_check_size : DSp) (c_check_wave : DSp) (c_count_changes : DSp) (c_count_lanes : DSp) (c_doing_at : DSp) (c_waves_with_lanes : DSp) (e : DX) : DTS := (dSeq (dAsg (dFld A.Doing "side" (dCall c_doing_at e [] (dCons (dVar 0) (dCons (dVar 1) dNil)))) (dgName 4))
    (dSeq (dDrop (dCall c_check_wave e [] (dCons (dVar 2) dNil)))
    (dSeq (dDrop (dCall c_check_size e [] (dCons (dVar 3) dNil)))
    (dSeq (dAsg (dVar 4) (dgTup 4 (dgCons (dgName 5) (dgCons (dgName 6) (dgCons (dgName 7) (dgCons (dgName 7) dgNil))))))
    (dSeq (dIfS (dOr (dTest (dOp rGeD (dOp rIxG (dVar 5) (dC (.int 2))) (dVar 2))) (dTest (dOp rGeD (dOp rMulD (dCB rAbsD (dCons (dVar 6) dNil)) (dOp rIxG (dVar 5) (dC (.int 2)))) (dVar 3)))) (dRet (dCall c_count_lanes e [] (dCons (dVar 5) dNil))) dNext)
    (dRet (dOp rAddD (dCall c_waves_with_lanes e [] (dCons (dVar 5) (dCons (dVar 2) dNil))) (dCall c_count_changes e [] (dCons (dVar 4) (dCons (dVar 2) (dCons (dVar 3) dNil)))))))))))
/-! _law_bag: 0 script 1 blend 2 great 3 cell -/
@[reducible] def rd__law_bag (A : Cls) (e : DX) : DTS := (dSeq (dPar 1 2 (dCons (dC (.int 11)) (dCons (dLstM dNil) dNil)))
    (dSeq (dFor (diSq (dVar 0)) (dgName 3) (dSeq (dAsg (dOp rModD (dOp rAddD (dOp rMulD (dVar 1) (dC (.int 1000003))) (dVar 3)) (dC (.int 2305843009213693951))) (dgName 1))
    (dIfS (dTest (dOp rGeD (dCB rAbsD (dCons (dVar 3) dNil)) (dOp rPowD (dC (.int 10)) (dC (.int 18))))) (dDrop (dAppend (dVar 2) (dCB rAbsD (dCons (dVar 3) dNil)))) dNext)))
    (dRet (dDisp ["great", "left", "turn", "blend"] (dCons (dVar 2) (dCons (dC (.int 0)) (dCons (dC (.int 0)) (dCons (dVar 1) dNil))))))))
/-! _law_draw: 0 bag 1 many 2 drawn 3 turn 4 mixed -/
@[reducible] def rd__law_draw (A : Cls) (e : DX) : DTS := (dSeq (dIfS (dAnd (dTest (dOp rLtD (dDGet (dVar 0) (dC (.str "left"))) (dVar 1))) (dTest (dOp rGtD (dCB rLenD (dCons (dDGet (dVar 0) (dC (.str "great"))) dNil)) (dC (.int 0))))) (dsDPut (dVar 0) (dC (.str "left")) (dPop0 (dDGet (dVar 0) (dC (.str "great"))) (dC (.int 0)))) dNext)
    (dSeq (dIfS (dTest (dOp rGeD (dDGet (dVar 0) (dC (.str "left"))) (dVar 1))) (dSeq (dAsg (dOp rModD (dDGet (dVar 0) (dC (.str "left"))) (dVar 1)) (dgName 2))
    (dSeq (dsDPut (dVar 0) (dC (.str "left")) (dOp rDivD (dDGet (dVar 0) (dC (.str "left"))) (dVar 1)))
    (dRet (dVar 2)))) dNext)
    (dSeq (dsDAug (dVar 0) (dC (.str "turn")) (dC (.int 1)))
    (dSeq (dAsg (dDGet (dVar 0) (dC (.str "turn"))) (dgName 3))
    (dSeq (dAsg (dOp rAddD (dOp rMulD (dOp rAddD (dDGet (dVar 0) (dC (.str "blend"))) (dOp rMulD (dC (.int 17)) (dVar 3))) (dOp rPowD (dOp rAddD (dVar 3) (dC (.int 29))) (dC (.int 2)))) (dOp rMulD (dC (.int 7919)) (dVar 3))) (dgName 4))
    (dRet (dOp rModD (dOp rDivD (dOp rModD (dOp rPowD (dOp rModD (dVar 4) (dC (.int 2305843009213693951))) (dC (.int 3))) (dOp rAddD (dOp rPowD (dC (.int 10)) (dC (.int 18))) (dC (.int 9)))) (dC (.int 64))) (dVar 1))))))))
/-! _law_in: 0 span 1 lane -/
@[reducible] def rd__law_in (A : Cls) (e : DX) : DTS := (dRet (dAndT (dChain rLeX rLtD (dOp rIxG (dVar 0) (dC (.int 0))) (dVar 1) (dOp rIxG (dVar 0) (dC (.int 1)))) (dOp rEqG (dOp rModD (dVar 1) (dOp rIxG (dVar 0) (dC (.int 2)))) (dOp rIxG (dVar 0) (dC (.int 3))))))
/-! _law_far_span: 0 bag 1 lanes 2 low_now 3 great 4 stride -/
@[reducible] def rd__law_far_span (A : Cls) (c__law_draw : DSp) (e : DX) : DTS := (dSeq (dAsg (dOp rIxG (dTup (dCons (dC (.int 0)) (dCons (dCall c__law_draw e [] (dCons (dVar 0) (dCons (dVar 1) dNil))) dNil))) (dCall c__law_draw e [] (dCons (dVar 0) (dCons (dC (.int 2)) dNil)))) (dgName 2))
    (dSeq (dAsg (dOp rIxG (dTup (dCons (dOp rPowD (dC (.int 10)) (dC (.int 9))) (dCons (dOp rPowD (dC (.int 10)) (dC (.int 29))) dNil))) (dCall c__law_draw e [] (dCons (dVar 0) (dCons (dC (.int 2)) dNil)))) (dgName 3))
    (dSeq (dAsg (dOp rIxG (dTup (dCons (dC (.int 1)) (dCons (dC (.int 1)) (dCons (dC (.int 2)) (dCons (dOp rAddD (dC (.int 1)) (dCall c__law_draw e [] (dCons (dVar 0) (dCons (dC (.int 40)) dNil)))) (dCons (dOp rAddD (dC (.int 1)) (dCall c__law_draw e [] (dCons (dVar 0) (dCons (dVar 3) dNil)))) dNil)))))) (dCall c__law_draw e [] (dCons (dVar 0) (dCons (dC (.int 5)) dNil)))) (dgName 4))
    (dRet (dTup (dCons (dVar 2) (dCons (dOp rAddD (dVar 2) (dCall c__law_draw e [] (dCons (dVar 0) (dCons (dOp rAddD (dOp rSubD (dVar 1) (dVar 2)) (dC (.int 1))) dNil)))) (dCons (dVar 4) (dCons (dCall c__law_draw e [] (dCons (dVar 0) (dCons (dVar 4) dNil))) dNil)))))))))
/-! _law_wave_right: 0 made 1 line 2 band 3 size 4 banks 5 number 6 every 7 cells 8 places 9 told 10 lane 11 cell 12 place -/
@[reducible] def rd__law_wave_right (A : Cls) (c_Kernel_lanes : DSp) (c__law_in : DSp) (c_degree_of_wave : DSp) (c_greatest_degree : DSp) (c_lanes_in_wave : DSp) (c_lines_of_wave : DSp) (e : DX) : DTS := (dSeq (dAsg (dLstRw (dOp rMulD (dVar 5) (dVar 2)) (dCB rMin2D (dCons (dProp A.Kernel c_Kernel_lanes (dVar 0)) (dCons (dOp rMulD (dOp rAddD (dVar 5) (dC (.int 1))) (dVar 2)) dNil)))) (dgName 6))
    (dSeq (dAsg (dLc (diSq (dVar 6)) (dgName 10) (dTru (dCall c__law_in eN [] (dCons (dOp rIxG (dVar 1) (dC (.int 1))) (dCons (dVar 10) dNil)))) (dOp rAddD (dOp rMulD (dOp rIxG (dVar 1) (dC (.int 3))) (dVar 10)) (dOp rIxG (dVar 1) (dC (.int 4)))) [10]) (dgName 7))
    (dSeq (dAsg (dLc (diSq (dSortSet (dVar 7))) (dgName 11) dYes (dOp rModD (dVar 11) (dVar 4)) [11]) (dgName 8))
    (dSeq (dIfS (dTest (dOp rNeG (dCall c_lanes_in_wave e [] (dCons (dVar 0) (dCons (dC (.int 0)) (dCons (dVar 2) (dCons (dVar 5) dNil))))) (dCB rLenD (dCons (dVar 7) dNil)))) (dRet (dC (.bl false))) dNext)
    (dSeq (dIfS (dTest (dOp rNeG (dCall c_lines_of_wave e [] (dCons (dVar 0) (dCons (dC (.int 0)) (dCons (dVar 2) (dCons (dVar 3) (dCons (dVar 5) dNil)))))) (dLenSet (dLc (diSq (dVar 7)) (dgName 11) dYes (dOp rDivD (dVar 11) (dVar 3)) [11])))) (dRet (dC (.bl false))) dNext)
    (dSeq (dAsg (dCall c_degree_of_wave e [] (dCons (dVar 0) (dCons (dC (.int 0)) (dCons (dVar 2) (dCons (dVar 4) (dCons (dVar 5) dNil)))))) (dgName 9))
    (dSeq (dIfS (dTest (dOp rGtD (dVar 9) (dCall c_greatest_degree e [] (dCons (dVar 0) (dCons (dC (.int 0)) (dCons (dVar 2) (dCons (dVar 4) dNil))))))) (dRet (dC (.bl false))) dNext)
    (dRet (dOp rEqG (dVar 9) (dCB rMaxLD (dCons (dOp rAddD (dLst (dCons (dC (.int 0)) dNil)) (dLc (diSq (dVar 8)) (dgName 12) dYes (dCount (dVar 8) (dVar 12)) [12])) dNil)))))))))))
/-! _law_sums: 0 made 1 band 2 size 3 banks 4 found -/
@[reducible] def rd__law_sums (A : Cls) (c_count_lines : DSp) (c_count_waves : DSp) (c_full_waves : DSp) (c_total_degree : DSp) (e : DX) : DTS := (dSeq (dAsg (dLst (dCons (dCall c_count_lines e [] (dCons (dVar 0) (dCons (dC (.int 0)) (dCons (dVar 1) (dCons (dVar 2) dNil))))) (dCons (dCall c_total_degree e [] (dCons (dVar 0) (dCons (dC (.int 0)) (dCons (dVar 1) (dCons (dVar 3) dNil))))) dNil))) (dgName 4))
    (dRet (dOp rAddD (dVar 4) (dLst (dCons (dCall c_count_waves e [] (dCons (dVar 0) (dCons (dC (.int 0)) (dCons (dVar 1) dNil)))) (dCons (dCall c_full_waves e [] (dCons (dVar 0) (dCons (dC (.int 0)) (dCons (dVar 1) dNil)))) dNil))))))
/-! law: 0 script 1 bag 2 turn 3 lanes 4 band 5 banks 6 size 7 a 8 b 9 span 10 line 11 made 12 waves_now 13 number 14 middle 15 parts 16 both 17 one 18 two -/
@[reducible] def rd_law (A : Cls) (c_Kernel___init__ : DSp) (c__law_bag : DSp) (c__law_draw : DSp) (c__law_far_span : DSp) (c__law_sums : DSp) (c__law_wave_right : DSp) (c_count_lanes : DSp) (c_count_lines : DSp) (e : DX) : DTS := (dSeq (dAsg (dCall c__law_bag e [] (dCons (dVar 0) dNil)) (dgName 1))
    (dSeq (dFor (diRw1 (dCons (dOp rAddD (dC (.int 5)) (dCB rMin2D (dCons (dC (.int 10)) (dCons (dCB rLenD (dCons (dVar 0) dNil)) dNil)))) dNil)) (dgName 2) (dSeq (dAsg (dOp rIxG (dTup (dCons (dC (.int 50)) (dCons (dOp rAddD (dOp rPowD (dC (.int 10)) (dC (.int 9))) (dCall c__law_draw e [] (dCons (dVar 1) (dCons (dC (.int 40)) dNil)))) (dCons (dOp rSubD (dOp rPowD (dC (.int 10)) (dC (.int 30))) (dCall c__law_draw e [] (dCons (dVar 1) (dCons (dC (.int 40)) dNil)))) dNil)))) (dCall c__law_draw e [] (dCons (dVar 1) (dCons (dC (.int 3)) dNil)))) (dgName 3))
    (dSeq (dAsg (dTup (dCons (dOp rAddD (dC (.int 1)) (dCall c__law_draw e [] (dCons (dVar 1) (dCons (dC (.int 32)) dNil)))) (dCons (dOp rAddD (dC (.int 1)) (dCall c__law_draw e [] (dCons (dVar 1) (dCons (dC (.int 4096)) dNil)))) dNil))) (dgTup 2 (dgCons (dgName 4) (dgCons (dgName 5) dgNil))))
    (dSeq (dAsg (dOp rIxG (dTup (dCons (dOp rAddD (dC (.int 1)) (dCall c__law_draw e [] (dCons (dVar 1) (dCons (dC (.int 40)) dNil)))) (dCons (dOp rAddD (dC (.int 1)) (dCall c__law_draw e [] (dCons (dVar 1) (dCons (dOp rPowD (dC (.int 10)) (dC (.int 12))) dNil)))) dNil))) (dCall c__law_draw e [] (dCons (dVar 1) (dCons (dC (.int 2)) dNil)))) (dgName 6))
    (dSeq (dPar 7 8 (dCons (dOp rSubD (dCall c__law_draw e [] (dCons (dVar 1) (dCons (dC (.int 30)) dNil))) (dC (.int 9))) (dCons (dCall c__law_draw e [] (dCons (dVar 1) (dCons (dOp rPowD (dC (.int 10)) (dC (.int 12))) dNil))) dNil)))
    (dSeq (dIfS (dTest (dOp rEqG (dCall c__law_draw e [] (dCons (dVar 1) (dCons (dC (.int 2)) dNil))) (dC (.int 0)))) (dAsg (dOp rSubD (dCall c__law_draw e [] (dCons (dVar 1) (dCons (dOp rPowD (dC (.int 10)) (dC (.int 14))) dNil))) (dOp rPowD (dC (.int 10)) (dC (.int 13)))) (dgName 7)) dNext)
    (dSeq (dAsg (dCall c__law_far_span e [] (dCons (dVar 1) (dCons (dVar 3) dNil))) (dgName 9))
    (dSeq (dAsg (dTup (dCons (dC (.str "put")) (dCons (dVar 9) (dCons (dC (.str "x")) (dCons (dVar 7) (dCons (dVar 8) (dCons (dC (.int 0)) (dCons (dC (.int 0)) dNil)))))))) (dgName 10))
    (dSeq (dAsg (dMakeZ A.Kernel c_Kernel___init__ e [.tup []] (dCons (dVar 3) (dCons (dLst (dCons (dVar 10) dNil)) dNil))) (dgName 11))
    (dSeq (dAsg (dOp rDivD (dOp rSubD (dOp rAddD (dVar 3) (dVar 4)) (dC (.int 1))) (dVar 4)) (dgName 12))
    (dSeq (dFor (diSq (dTup (dCons (dC (.int 0)) (dCons (dOp rSubD (dVar 12) (dC (.int 1))) (dCons (dCB rMin2D (dCons (dOp rSubD (dVar 12) (dC (.int 1))) (dCons (dOp rDivD (dOp rIxG (dVar 9) (dC (.int 0))) (dVar 4)) dNil))) (dCons (dCall c__law_draw e [] (dCons (dVar 1) (dCons (dVar 12) dNil))) dNil)))))) (dgName 13) (dIfS (dNot (dTru (dCall c__law_wave_right e [] (dCons (dVar 11) (dCons (dVar 10) (dCons (dVar 4) (dCons (dVar 6) (dCons (dVar 5) (dCons (dVar 13) dNil))))))))) (dRet (dC (.bl false))) dNext))
    (dSeq (dIfS (dTest (dOp rGtD (dCall c_count_lines e [] (dCons (dVar 11) (dCons (dC (.int 0)) (dCons (dVar 4) (dCons (dVar 6) dNil))))) (dCall c_count_lanes e [] (dCons (dVar 9) dNil)))) (dRet (dC (.bl false))) dNext)
    (dSeq (dAsg (dCB rMin2D (dCons (dCB rMax2D (dCons (dOp rMulD (dVar 4) (dCall c__law_draw e [] (dCons (dVar 1) (dCons (dVar 12) dNil)))) (dCons (dOp rIxG (dVar 9) (dC (.int 0))) dNil))) (dCons (dOp rIxG (dVar 9) (dC (.int 1))) dNil))) (dgName 14))
    (dSeq (dAsg (dCB rMin2D (dCons (dOp rIxG (dVar 9) (dC (.int 1))) (dCons (dOp rAddD (dVar 14) (dOp rModD (dOp rSubD (dC (.int 0)) (dVar 14)) (dVar 4))) dNil))) (dgName 14))
    (dSeq (dAsg (dLstM (dCons (dMakeZ A.Kernel c_Kernel___init__ e [.tup []] (dCons (dVar 3) (dCons (dLst (dCons (dTup (dCons (dC (.str "put")) (dCons (dOp rAddD (dTup (dCons (dOp rIxG (dVar 9) (dC (.int 0))) (dCons (dVar 14) dNil))) (dSl (dVar 9) (dPart (dC (.int 2))) dNoPart)) (dCons (dC (.str "x")) (dCons (dVar 7) (dCons (dVar 8) (dCons (dC (.int 0)) (dCons (dC (.int 0)) dNil)))))))) dNil)) dNil))) dNil)) (dgName 15))
    (dSeq (dDrop (dAppend (dVar 15) (dMakeZ A.Kernel c_Kernel___init__ e [.tup []] (dCons (dVar 3) (dCons (dLst (dCons (dTup (dCons (dC (.str "put")) (dCons (dOp rAddD (dTup (dCons (dVar 14) (dCons (dOp rIxG (dVar 9) (dC (.int 1))) dNil))) (dSl (dVar 9) (dPart (dC (.int 2))) dNoPart)) (dCons (dC (.str "x")) (dCons (dVar 7) (dCons (dVar 8) (dCons (dC (.int 0)) (dCons (dC (.int 0)) dNil)))))))) dNil)) dNil)))))
    (dSeq (dAsg (dLc (diSq (dVar 15)) (dgName 17) dYes (dCall c__law_sums eN [] (dCons (dVar 17) (dCons (dVar 4) (dCons (dVar 6) (dCons (dVar 5) dNil))))) [17]) (dgName 16))
    (dIfS (dTest (dOp rNeG (dLc (diZip (dCons (dOp rIxG (dVar 16) (dC (.int 0))) (dCons (dOp rIxG (dVar 16) (dC (.int 1))) dNil))) (dgTup 2 (dgCons (dgName 17) (dgCons (dgName 18) dgNil))) dYes (dOp rAddD (dVar 17) (dVar 18)) [17, 18]) (dCall c__law_sums e [] (dCons (dVar 11) (dCons (dVar 4) (dCons (dVar 6) (dCons (dVar 5) dNil))))))) (dRet (dC (.bl false))) dNext))))))))))))))))))
    (dRet (dC (.bl true)))))
end Law

set_option linter.all false
set_option maxRecDepth 100000
set_option maxHeartbeats 1000000
/-! what the laws' texts have in common -/
namespace Law
open PySem L2 DL
theorem natAbs_lt {x : Int} (h0 : -(2 ^ 256) < x) (h : x < 2 ^ 256) : x.natAbs < 2 ^ 256 := by omega
theorem CDiv_of {i j : Int} (h0 : 0 < j) (h : j < 2 ^ 256) : CDivD i j := ⟨h0, 256, by omega, by decide, by decide⟩
theorem CMul_of {i j : Int} (h0 : -(2 ^ 256) < i) (h : i < 2 ^ 256) (h0' : -(2 ^ 256) < j) (h' : j < 2 ^ 256) : CMulD i j := ⟨256, 256, by omega, by omega, by decide⟩
theorem CMul_nat {a b : Nat} (h : a < 2 ^ 256) (h' : b < 2 ^ 256) : CMulD (a : Int) (b : Int) := CMul_of (by omega) (by omega) (by omega) (by omega)
theorem CDiv_nat {i : Int} {b : Nat} (h : 0 < b) (h' : b < 2 ^ 256) : CDivD i (b : Int) := CDiv_of (by omega) (by omega)
theorem CPow_of {i : Int} {j : Nat} (h0 : -(2 ^ 64) < i) (h : i < 2 ^ 64) (hj : j ≤ 10000) : CPowD i (j : Int) := ⟨by omega, 64, by omega, by omega⟩
theorem CPow_big {i : Int} {j : Nat} (h0 : -(2 ^ 256) < i) (h : i < 2 ^ 256) (hj : j ≤ 10000) : CPowD i (j : Int) := ⟨by omega, 256, by omega, by omega⟩
/-- behind a body: the answer -/
theorem fin {q : DK} {μ : Mu} {x y : D} (h : q y μ) (e : x = y) : ∃ μ2, Sub μ2 μ ∧ q x μ2 := ⟨μ, Sub.refl μ, e ▸ h⟩
/-- .. what was made on the way is dropped -/
theorem finS {q : DK} {μ μ2 : Mu} {x y : D} (s : Sub μ2 μ) (h : q y μ2) (e : x = y) : ∃ μ2, Sub μ2 μ ∧ q x μ2 := ⟨μ2, s, e ▸ h⟩
theorem iteB {b : Bool} {A B : Prop} (h1 : b = true → A) (h2 : b = false → B) : if b = true then A else B := by
  cases b with
  | true => rw [if_pos rfl]; exact h1 rfl
  | false => rw [if_neg (by decide)]; exact h2 rfl
theorem iteT {b : Bool} {A B : Prop} (h : b = true) (a : A) : if b = true then A else B := by rw [if_pos h]; exact a
theorem iteF {b : Bool} {A B : Prop} (h : b = false) (a : B) : if b = true then A else B := by rw [if_neg (by rw [h]; decide)]; exact a
theorem iteD {c : Prop} [Decidable c] {A B : Prop} (h1 : c → A) (h2 : ¬ c → B) : if decide c = true then A else B := iteB (fun h => h1 (of_decide_eq_true h)) fun h => h2 (of_decide_eq_false h)
theorem iteDT {c : Prop} [Decidable c] {A B : Prop} (h : c) (a : A) : if decide c = true then A else B := iteD (fun _ => a) fun z => absurd h z
theorem iteDF {c : Prop} [Decidable c] {A B : Prop} (h : ¬ c) (a : B) : if decide c = true then A else B := iteD (fun z => absurd z h) fun _ => a
theorem iteP {c : Prop} [Decidable c] {A B : Prop} (h : c) (a : A) : if c then A else B := by rw [if_pos h]; exact a
theorem sz {ds : List D} (n : Nat) (e : ds.length = n) (h : n ≤ 1000) : ds.length ≤ sizeLine := by rw [sizeLine_eq]; omega
theorem mod_ne {a b : Int} (h : 0 < b) : 0 ≤ a % b ∧ a % b < b := ⟨Int.emod_nonneg a (by omega), Int.emod_lt_of_pos a h⟩
theorem seq_asg {te : DTE} {g : DTG} {r : DTS} {E : DEnds} {δ : DS} {μ : Mu} (h : te δ μ fun d μ1 => g d δ μ1 (r E)) : dSeq (dAsg te g) r E δ μ := h
theorem one_asg {te : DTE} {g : DTG} {E : DEnds} {δ : DS} {μ : Mu} (h : te δ μ fun d μ1 => g d δ μ1 E.nx) : dAsg te g E δ μ := h
theorem ret_callc {c : DSp} {e : DX} {dds : List D} {x : DTE} {t : DTA} {E : DEnds} {δ : DS} {μ : Mu} (h : x δ μ fun d μ1 => t δ μ1 fun ds μ2 => c (d :: ds ++ dds) μ2 E.rt e) : dRet (dCall c e dds (dCons x t)) E δ μ := h
theorem callc {c : DSp} {e : DX} {dds : List D} {x : DTE} {t : DTA} {q : DK} {δ : DS} {μ : Mu} (h : x δ μ fun d μ1 => t δ μ1 fun ds μ2 => c (d :: ds ++ dds) μ2 q e) : dCall c e dds (dCons x t) δ μ q := h
theorem seq_par {i j : Nat} {x y : DTE} {r : DTS} {E : DEnds} {δ : DS} {μ : Mu} (h : x δ μ fun d μ1 => y δ μ1 fun e μ2 => r E ((δ.set i (some d)).set j (some e)) μ2) : dSeq (dPar i j (dCons x (dCons y dNil))) r E δ μ := h
/-! lists of whole numbers -/
theorem ints_get {lo : Int} {n i : Nat} {d : D} (h : (intsD lo n)[i]? = some d) : i < n ∧ d = .int (lo + i) := by
  unfold intsD at h
  rw [List.getElem?_map] at h
  obtain ⟨j, hj, rfl⟩ := Option.map_eq_some_iff.mp h
  obtain ⟨hl, e⟩ := List.getElem?_eq_some_iff.mp hj
  rw [List.getElem_range] at e
  subst e
  exact ⟨by simpa using hl, rfl⟩
theorem ints_len (lo : Int) (n : Nat) : (intsD lo n).length = n := by simp [intsD]
theorem map_get {α : Type} {f : α → D} {l : List α} {i : Nat} {d : D} (h : (l.map f)[i]? = some d) : ∃ x, l[i]? = some x ∧ d = f x := by
  rw [List.getElem?_map] at h
  obtain ⟨x, h1, rfl⟩ := Option.map_eq_some_iff.mp h
  exact ⟨x, h1, rfl⟩
theorem plain_ints (k : Nat) (l : List Int) : plainDs k (l.map D.int) = true := by
  induction l with
  | nil => cases k <;> rfl
  | cons x l ih => cases k <;> exact ih
theorem atI_some {α : Type} {l : List α} {x : Int} (x0 : 0 ≤ x) (x1 : x < l.length) : ∃ v, atI l x = some v ∧ l[x.toNat]? = some v := by
  have h : x.toNat < l.length := by omega
  refine ⟨l[x.toNat], ?_, by simp [h]⟩
  have e : ((x.toNat : Nat) : Int) = x := by omega
  have := atI_lt (l := l) (k := x.toNat) (x := l[x.toNat]) (by simp [h])
  rwa [e] at this
/-- an item of a list that stands -/
theorem ixL {μ : Mu} {l : List D} {x : Int} {q : DK} (x0 : 0 ≤ x) (x1 : x < l.length) (k : ∀ v, l[x.toNat]? = some v → q v μ) : rIxG (.lst l) (.int x) μ q := by
  obtain ⟨v, h1, h2⟩ := atI_some x0 x1
  show (match atI l x with | some d => q d μ | none => False)
  rw [h1]; exact k v h2
theorem ixH (μ : Mu) {d : D} {l : List D} {q : DK} (k : q d μ) : rIxG (.lst (d :: l)) (.int 0) μ q := by
  show (match atI (d :: l) 0 with | some d => q d μ | none => False)
  rw [ix0]; exact k
theorem nrm_adr {μ : Mu} {p : Addr} {l : List D} (h : μ p = some (.lst l)) : nrm μ (.adr p) = .lst l := by simp [nrm, h]
theorem nrm_new {μ : Mu} {p : Addr} {l : List D} : nrm (updM μ p (.lst l)) (.adr p) = .lst l := nrm_adr (updM_same _ _ _)
theorem pickL (l : List Int) (P : Int → Prop) (μ : Mu) {x : Int} {q : DK} (x0 : 0 ≤ x) (x1 : x < l.length) (h : ∀ v ∈ l, P v) (k : ∀ v, P v → q (.int v) μ) : rIxG (.lst (l.map D.int)) (.int x) μ q := by
  refine ixL x0 (by simpa using x1) fun v hv => ?_
  obtain ⟨y, h1, rfl⟩ := map_get hv
  exact k y (h y (List.mem_of_getElem? h1))
/-! ### a source of draws, behind at most n draws -/
def Src (p : Addr) (μ : Mu) (n : Int) : Prop := ∃ g s c, μ p = some (.lst [.int g, .int s, .int c]) ∧ 0 ≤ g ∧ 0 ≤ s ∧ s < 2 ^ 62 ∧ 0 ≤ c ∧ c ≤ n
/-- all but p stands as it stood -/
def Ge (p : Addr) (μ μ' : Mu) : Prop := ∀ a m, a ≠ p → μ a = some m → μ' a = some m
theorem Ge.refl {p : Addr} {μ : Mu} : Ge p μ μ := fun _ _ _ h => h
theorem Ge.trans {p : Addr} {μ μ1 μ2 : Mu} (h : Ge p μ μ1) (k : Ge p μ1 μ2) : Ge p μ μ2 := fun a m z e => k a m z (h a m z e)
theorem Ge.upd {p : Addr} {μ : Mu} {m : M} : Ge p μ (updM μ p m) := fun a _ z e => (updM_ne z).trans e
theorem Ge.new {p r : Addr} {μ : Mu} {m : M} (h : μ r = none) : Ge p μ (updM μ r m) := fun a m' z e => by
  have : a ≠ r := fun z => by rw [z, h] at e; cases e
  exact (updM_ne this).trans e
theorem Ge.set {p r : Addr} {μ μ' : Mu} {m : M} (k : Ge p μ μ') (h : μ r = none) : Ge p μ (updM μ' r m) := fun a m' z e => by
  have : a ≠ r := fun z => by rw [z, h] at e; cases e
  exact (updM_ne this).trans (k a m' z e)
theorem Src.ne {p r : Addr} {μ : Mu} {n : Int} (h : Src p μ n) (k : μ r = none) : r ≠ p := fun z => by
  obtain ⟨_, _, _, e, _⟩ := h
  rw [z, e] at k; cases k
theorem Src.le {p : Addr} {μ : Mu} {n m : Int} (h : Src p μ n) (k : n ≤ m) : Src p μ m := by
  obtain ⟨g, s, c, e, a1, a2, a3, a4, a5⟩ := h
  exact ⟨g, s, c, e, a1, a2, a3, a4, by omega⟩
theorem Src.at {p : Addr} {μ μ' : Mu} {n : Int} (h : Src p μ n) (k : μ' p = μ p) : Src p μ' n := by
  obtain ⟨g, s, c, e, r⟩ := h
  exact ⟨g, s, c, k.trans e, r⟩
theorem Src.upd {p r : Addr} {μ : Mu} {n : Int} {m : M} (h : Src p μ n) (k : μ r = none) : Src p (updM μ r m) n := h.at (updM_ne (h.ne k).symm)
theorem cut_mem {l : List D} {lo hi : Option Int} {i : Nat} {d : D} (h : (cutD l lo hi)[i]? = some d) : d ∈ l := by
  have := List.mem_of_getElem? h
  unfold cutD at this
  exact List.mem_of_mem_drop (List.mem_of_mem_take this)
theorem cut_len {l : List D} {lo hi : Option Int} : (cutD l lo hi).length ≤ l.length := by
  unfold cutD; simp only [List.length_take, List.length_drop]; omega
end Law

set_option linter.all false
/-! arithmetic of guards -/
namespace Ar
/-- the first lane, the number of lanes -/
def fst (a c d : Int) : Int := a + (d - a) % c
def cnt (a b c d : Int) : Int := (b - fst a c d + c - 1) / c
theorem fst_ge {a c d : Int} (hc : 0 < c) : a ≤ fst a c d := by
  unfold fst; have := Int.emod_nonneg (d - a) (show c ≠ 0 by omega); omega
theorem fst_lt {a c d : Int} (hc : 0 < c) : fst a c d < a + c := by
  unfold fst; have := Int.emod_lt_of_pos (d - a) hc; omega
theorem fst_mod {a c d : Int} (hc : 0 < c) (h0 : 0 ≤ d) (h1 : d < c) : fst a c d % c = d := by
  unfold fst
  have : (a + (d - a) % c) % c = (a + (d - a)) % c := by rw [Int.add_emod, Int.emod_emod_of_dvd _ (Int.dvd_refl c), ← Int.add_emod]
  rw [this, show a + (d - a) = d by omega, Int.emod_eq_of_lt h0 h1]
/-- a number whose remainder is d lies a multiple of c away from the first lane -/
theorem lane_form {a c d x : Int} (hc : 0 < c) (h0 : 0 ≤ d) (h1 : d < c) (hx : x % c = d) : ∃ k, x = fst a c d + c * k := by
  have h2 := fst_mod (a := a) hc h0 h1
  have : (x - fst a c d) % c = 0 := by rw [Int.sub_emod, hx, h2]; simp
  obtain ⟨k, hk⟩ := Int.dvd_of_emod_eq_zero this
  exact ⟨k, by omega⟩
theorem lane_ge {a c d x : Int} (hc : 0 < c) (h0 : 0 ≤ d) (h1 : d < c) (hx : x % c = d) (ha : a ≤ x) : ∃ k, 0 ≤ k ∧ x = fst a c d + c * k := by
  obtain ⟨k, hk⟩ := lane_form (a := a) hc h0 h1 hx
  refine ⟨k, ?_, hk⟩
  have h3 := fst_lt (a := a) (d := d) hc
  rcases Int.lt_or_le k 0 with h | h
  · have : c * k ≤ c * (-1) := Int.mul_le_mul_of_nonneg_left (by omega) (by omega)
    omega
  · exact h
theorem nth_mod {a c d k : Int} (hc : 0 < c) (h0 : 0 ≤ d) (h1 : d < c) : (fst a c d + k * c) % c = d := by
  rw [Int.add_mul_emod_self_right]; exact fst_mod hc h0 h1
theorem cnt_lt {a b c d k : Int} (hc : 0 < c) (hk : 0 ≤ k) : k < cnt a b c d ↔ fst a c d + k * c < b := by
  unfold cnt
  have h1 := Int.emod_add_mul_ediv (b - fst a c d + c - 1) c
  have h2 := Int.emod_nonneg (b - fst a c d + c - 1) (show c ≠ 0 by omega)
  have h3 := Int.emod_lt_of_pos (b - fst a c d + c - 1) hc
  constructor
  · intro h
    have : c * (k + 1) ≤ c * ((b - fst a c d + c - 1) / c) := Int.mul_le_mul_of_nonneg_left (by omega) (by omega)
    rw [Int.mul_add, Int.mul_one, Int.mul_comm c k] at this
    omega
  · intro h
    rcases Int.lt_or_le k ((b - fst a c d + c - 1) / c) with h4 | h4
    · exact h4
    · have : c * ((b - fst a c d + c - 1) / c) ≤ c * k := Int.mul_le_mul_of_nonneg_left h4 (by omega)
      rw [Int.mul_comm c k] at this
      omega
theorem cnt_nonneg {a b c d : Int} (hc : 0 < c) (hab : a ≤ b) : 0 ≤ cnt a b c d := by
  unfold cnt
  have := fst_lt (a := a) (d := d) hc
  exact Int.ediv_nonneg (by omega) (by omega)
theorem cnt_le {a b c d : Int} (hc : 0 < c) (hab : a ≤ b) : cnt a b c d ≤ b - a := by
  rcases Int.lt_or_le (b - a) (cnt a b c d) with h | h
  · have := (cnt_lt (a := a) (b := b) (d := d) (k := b - a) hc (by omega)).mp h
    have h2 := fst_ge (a := a) (d := d) hc
    have : (b - a) * 1 ≤ (b - a) * c := Int.mul_le_mul_of_nonneg_left (by omega) (by omega)
    omega
  · exact h
/-- uniqueness: what k < N says of every k settles N -/
theorem cnt_unique {a b c d N : Int} (hc : 0 < c) (hab : a ≤ b) (hN : 0 ≤ N) (h : ∀ k, 0 ≤ k → (k < N ↔ fst a c d + k * c < b)) : cnt a b c d = N := by
  have h0 := cnt_nonneg (d := d) hc hab
  rcases Int.lt_trichotomy (cnt a b c d) N with z | z | z
  · have := (cnt_lt (a := a) (b := b) (d := d) hc h0).mpr ((h _ h0).mp z); omega
  · exact z
  · have := (h _ hN).mpr ((cnt_lt (a := a) (b := b) (d := d) hc hN).mp z); omega
/-- an interval cut at m -/
theorem cnt_cut {a b c d m : Int} (hc : 0 < c) (h0 : 0 ≤ d) (h1 : d < c) (ha : a ≤ m) (hb : m ≤ b) : cnt a m c d + cnt m b c d = cnt a b c d := by
  -- the first lane from m on is that of a, so many steps on as there are lanes ahead of m
  have hn := cnt_nonneg (d := d) hc ha
  have e : fst m c d = fst a c d + cnt a m c d * c := by
    obtain ⟨k, hk0, hk⟩ := lane_ge (a := a) hc h0 h1 (fst_mod (a := m) hc h0 h1) (Int.le_trans ha (fst_ge hc))
    have l1 : ¬ k < cnt a m c d := fun z => by
      have := (cnt_lt (a := a) (b := m) (d := d) hc hk0).mp z
      have g := fst_ge (a := m) (d := d) hc
      rw [Int.mul_comm c k] at hk
      omega
    have l2 : ¬ cnt a m c d < k := fun z => by
      have z1 : ¬ cnt a m c d < cnt a m c d := by omega
      have z2 : ¬ fst a c d + cnt a m c d * c < m := fun z => z1 ((cnt_lt (a := a) (b := m) (d := d) hc hn).mpr z)
      have g := fst_lt (a := m) (d := d) hc
      have : (cnt a m c d + 1) * c ≤ k * c := Int.mul_le_mul_of_nonneg_right (by omega) (by omega)
      rw [Int.add_mul, Int.one_mul] at this
      rw [Int.mul_comm c k] at hk
      omega
    have : k = cnt a m c d := by omega
    rw [hk, this, Int.mul_comm]
  have hm := cnt_nonneg (d := d) hc hb
  refine (cnt_unique hc (by omega) (by omega) fun k hk => ?_).symm
  rcases Int.lt_or_le k (cnt a m c d) with z | z
  · have := (cnt_lt (a := a) (b := m) (d := d) hc hk).mp z
    constructor <;> intro <;> omega
  · have q := cnt_lt (a := m) (b := b) (d := d) (k := k - cnt a m c d) hc (by omega)
    rw [e, Int.sub_mul] at q
    constructor
    · intro h; have := q.mp (by omega); omega
    · intro h; have := q.mpr (by omega); omega
end Ar

set_option linter.all false
namespace Ar
/-! Euclid, the inverse, two remainders at once -/
theorem gcd_rest (m n : Int) : Int.gcd m (n % m) = Int.gcd m n := by
  rw [Int.emod_def]; exact Int.gcd_sub_mul_left_right ..
/-- the loop's word: D, d the rests, b, f the factors of n by m -/
structure Inv (n m D d b f : Int) : Prop where
  hd : 0 ≤ d
  hD : d < D ∨ (0 < D ∧ d ≤ D)
  hDm : D ≤ m
  cb : ∃ k, b * n = D + k * m
  cf : ∃ k, f * n = d + k * m
  g : Int.gcd D d = Int.gcd m n
  sg : (b ≤ 0 ∧ 0 ≤ f) ∨ (0 ≤ b ∧ f ≤ 0)
  sz : (f.natAbs : Int) * D + (b.natAbs : Int) * d = m
theorem Inv.start {n m : Int} (hm : 0 < m) : Inv n m m (n % m) 0 1 := by
  have h1 := Int.emod_nonneg n (show m ≠ 0 by omega)
  have h2 := Int.emod_lt_of_pos n hm
  refine ⟨h1, .inl h2, Int.le_refl m, ⟨-1, by omega⟩, ⟨n / m, ?_⟩, ?_, .inl ⟨Int.le_refl 0, by omega⟩, by simp⟩
  · have := Int.emod_add_mul_ediv n m
    rw [Int.one_mul, Int.mul_comm (n / m) m]; omega
  · exact gcd_rest m n
theorem Inv.step {n m D d b f : Int} (h : Inv n m D d b f) (hd : 0 < d) : Inv n m d (D - D / d * d) f (b - D / d * f) ∧ D - D / d * d < d := by
  have e : D - D / d * d = D % d := by
    have := Int.emod_add_mul_ediv D d
    rw [Int.mul_comm (D / d) d]; omega
  have h1 := Int.emod_nonneg D (show d ≠ 0 by omega)
  have h2 := Int.emod_lt_of_pos D hd
  have hD0 : 0 < D := by rcases h.hD with z | z <;> omega
  have q0 : 0 ≤ D / d := Int.ediv_nonneg (by omega) (by omega)
  refine ⟨⟨by omega, .inl (by omega), ?_, h.cf, ?_, ?_, ?_, ?_⟩, by omega⟩
  · rcases h.hD with z | z <;> have := h.hDm <;> omega
  · obtain ⟨k, hk⟩ := h.cb
    obtain ⟨l, hl⟩ := h.cf
    refine ⟨k - D / d * l, ?_⟩
    rw [Int.sub_mul, hk, Int.mul_assoc, hl, Int.mul_add, Int.sub_mul, Int.mul_assoc]
    omega
  · rw [e, gcd_rest, Int.gcd_comm]
    exact h.g
  · rcases h.sg with ⟨z1, z2⟩ | ⟨z1, z2⟩
    · right
      refine ⟨z2, ?_⟩
      have := Int.mul_nonneg q0 z2
      omega
    · left
      refine ⟨z2, ?_⟩
      have : D / d * f ≤ 0 := Int.mul_nonpos_of_nonneg_of_nonpos q0 z2
      omega
  · have ab : ((b - D / d * f).natAbs : Int) = (b.natAbs : Int) + D / d * (f.natAbs : Int) := by
      rcases h.sg with ⟨z1, z2⟩ | ⟨z1, z2⟩
      · have p := Int.mul_nonneg q0 z2
        have f1 : (f.natAbs : Int) = f := by omega
        rw [f1]; omega
      · have p : D / d * f ≤ 0 := Int.mul_nonpos_of_nonneg_of_nonpos q0 z2
        have f1 : (f.natAbs : Int) = -f := by omega
        rw [f1, Int.mul_neg]; omega
    rw [ab, ← h.sz, Int.add_mul, Int.mul_sub, Int.mul_comm (D / d) (f.natAbs : Int), Int.mul_assoc]
    omega
theorem Inv.small {n m D d b f : Int} (h : Inv n m D d b f) : (f.natAbs : Int) ≤ m ∧ (0 < d → (b.natAbs : Int) ≤ m) ∧ 0 < D := by
  have hD0 : 0 < D := by rcases h.hD with z | z <;> have := h.hd <;> omega
  have s := h.sz
  have p1 : 0 ≤ (b.natAbs : Int) * d := Int.mul_nonneg (by omega) h.hd
  have p2 : (f.natAbs : Int) * 1 ≤ (f.natAbs : Int) * D := Int.mul_le_mul_of_nonneg_left (by omega) (by omega)
  refine ⟨by omega, fun hd => ?_, hD0⟩
  have p3 : (b.natAbs : Int) * 1 ≤ (b.natAbs : Int) * d := Int.mul_le_mul_of_nonneg_left (by omega) (by omega)
  have p4 : 0 ≤ (f.natAbs : Int) * D := Int.mul_nonneg (by omega) (by omega)
  omega
theorem Inv.done {n m D b f : Int} (h : Inv n m D 0 b f) (hm : 0 < m) (g1 : Int.gcd m n = 1) : 0 ≤ b % m ∧ b % m < m ∧ (n * (b % m)) % m = 1 % m := by
  have g := h.g
  rw [g1, Int.gcd_zero_right] at g
  have hD0 := h.small.2.2
  have hD1 : D = 1 := by omega
  obtain ⟨k, hk⟩ := h.cb
  refine ⟨Int.emod_nonneg _ (by omega), Int.emod_lt_of_pos _ hm, ?_⟩
  have e1 : (n * (b % m)) % m = (n * b) % m := by rw [Int.mul_emod, Int.emod_emod_of_dvd _ (Int.dvd_refl m), ← Int.mul_emod]
  rw [e1, Int.mul_comm n b, hk, hD1, Int.add_mul_emod_self_right]
/-- the inverse -/
def IsInv (n m x : Int) : Prop := 0 ≤ x ∧ x < m ∧ (n * x) % m = 1 % m

/-- both remainders: (c1, d1) and (c2, d2), g the common divisor, t = c2 / g, u the inverse of c1 / g by t -/
theorem join {c1 d1 c2 d2 g t x : Int} (h1 : 0 < c1) (h2 : 0 < c2) (hg : g = (Nat.gcd c1.natAbs c2.natAbs : Nat)) (hd : (d2 - d1) % g = 0) (d10 : 0 ≤ d1) (d11 : d1 < c1) (d20 : 0 ≤ d2) (d21 : d2 < c2)
    (ht : t = c2 / g) (hx : IsInv (c1 / g) t x) :
    let k := ((d2 - d1) / g * x) % t
    0 < t ∧ 0 ≤ d1 + c1 * k ∧ d1 + c1 * k < c1 * t ∧ ∀ y, y % (c1 * t) = d1 + c1 * k ↔ y % c1 = d1 ∧ y % c2 = d2 := by
  intro k
  have hg0 : 0 < g := by
    rw [hg]
    have : 0 < Nat.gcd c1.natAbs c2.natAbs := Nat.gcd_pos_of_pos_left _ (by omega)
    omega
  have gd1 : g ∣ c1 := by rw [hg]; exact Int.gcd_dvd_left c1 c2
  have gd2 : g ∣ c2 := by rw [hg]; exact Int.gcd_dvd_right c1 c2
  obtain ⟨p1, e1⟩ := gd1
  obtain ⟨p2, e2⟩ := gd2
  have q1 : c1 / g = p1 := by rw [e1]; exact Int.mul_ediv_cancel_left _ (by omega)
  have q2 : c2 / g = p2 := by rw [e2]; exact Int.mul_ediv_cancel_left _ (by omega)
  obtain ⟨w, ew⟩ := Int.dvd_of_emod_eq_zero hd
  have qw : (d2 - d1) / g = w := by rw [ew]; exact Int.mul_ediv_cancel_left _ (by omega)
  rw [q2] at ht
  subst ht
  rw [q1] at hx
  obtain ⟨x0, x1, x2⟩ := hx
  have t0 : 0 < t := by
    rcases Int.lt_or_le 0 t with z | z
    · exact z
    · have := Int.mul_nonpos_of_nonneg_of_nonpos (show 0 ≤ g by omega) z; omega
  have k0 : 0 ≤ k := Int.emod_nonneg _ (by omega)
  have k1 : k < t := Int.emod_lt_of_pos _ t0
  have b1 : 0 ≤ c1 * k := Int.mul_nonneg (by omega) k0
  have b2 : c1 * (k + 1) ≤ c1 * t := Int.mul_le_mul_of_nonneg_left (by omega) (by omega)
  rw [Int.mul_add, Int.mul_one] at b2
  -- c1 * k leads from d1 to d2 modulo c2
  have hk : (p1 * k) % t = w % t := by
    show (p1 * (((d2 - d1) / g * x) % t)) % t = w % t
    rw [qw]
    have s1 : (p1 * ((w * x) % t)) % t = (p1 * (w * x)) % t := by rw [Int.mul_emod, Int.emod_emod_of_dvd _ (Int.dvd_refl t), ← Int.mul_emod]
    have s2 : p1 * (w * x) = w * (p1 * x) := by rw [← Int.mul_assoc, Int.mul_comm p1 w, Int.mul_assoc]
    rw [s1, s2, Int.mul_emod, x2, ← Int.mul_emod, Int.mul_one]
  have r1 : (d1 + c1 * k) % c1 = d1 := by rw [Int.add_mul_emod_self_left, Int.emod_eq_of_lt d10 d11]
  have r2 : (d1 + c1 * k) % c2 = d2 := by
    have : t ∣ (p1 * k - w) := Int.dvd_of_emod_eq_zero (by rw [Int.sub_emod, hk]; simp)
    obtain ⟨z, ez⟩ := this
    have : d1 + c1 * k = d2 + c2 * z := by
      have : c1 * k = g * (p1 * k) := by rw [e1, Int.mul_assoc]
      have h3 : p1 * k = w + t * z := by omega
      rw [this, h3, Int.mul_add, ← ew, e2, Int.mul_assoc]
      omega
    rw [this, Int.add_mul_emod_self_left, Int.emod_eq_of_lt d20 d21]
  refine ⟨t0, by omega, by omega, fun y => ⟨fun hy => ?_, fun ⟨hy1, hy2⟩ => ?_⟩⟩
  · have dv1 : c1 ∣ c1 * t := ⟨t, rfl⟩
    have dv2 : c2 ∣ c1 * t := ⟨p1, by rw [e1, e2, Int.mul_assoc, Int.mul_assoc, Int.mul_comm p1 t]⟩
    exact ⟨by rw [← Int.emod_emod_of_dvd y dv1, hy, r1], by rw [← Int.emod_emod_of_dvd y dv2, hy, r2]⟩
  · -- y and the found one differ by a multiple of c1 and of c2, so of c1 * t
    have m1 : c1 ∣ (y - (d1 + c1 * k)) := Int.dvd_of_emod_eq_zero (by rw [Int.sub_emod, hy1, r1]; simp)
    have m2 : c2 ∣ (y - (d1 + c1 * k)) := Int.dvd_of_emod_eq_zero (by rw [Int.sub_emod, hy2, r2]; simp)
    obtain ⟨u, eu⟩ := m1
    obtain ⟨v, ev⟩ := m2
    have s : t ∣ p1 * u := by
      have : g * (p1 * u) = g * (t * v) := by rw [← Int.mul_assoc, ← e1, ← eu, ev, e2, Int.mul_assoc]
      exact ⟨v, Int.eq_of_mul_eq_mul_left (by omega) this⟩
    -- p1 and t have no common divisor: p1 * x is 1 modulo t
    have su : t ∣ u := by
      have : t ∣ (p1 * x - 1) := Int.dvd_of_emod_eq_zero (by rw [Int.sub_emod, x2]; simp)
      obtain ⟨a, ea⟩ := this
      obtain ⟨b, eb⟩ := s
      refine ⟨b * x - a * u, ?_⟩
      have f1 : u * (p1 * x) = u + u * (t * a) := by rw [show p1 * x = 1 + t * a by omega, Int.mul_add, Int.mul_one]
      have f2 : u * (p1 * x) = t * (b * x) := by rw [← Int.mul_assoc, Int.mul_comm u p1, eb, Int.mul_assoc]
      have f3 : u * (t * a) = t * (a * u) := by rw [← Int.mul_assoc, Int.mul_comm u t, Int.mul_assoc, Int.mul_comm u a]
      rw [Int.mul_sub]
      omega
    obtain ⟨z, ez⟩ := su
    have : y = d1 + c1 * k + c1 * t * z := by rw [Int.mul_assoc, ← ez]; omega
    rw [this, Int.add_mul_emod_self_left, Int.emod_eq_of_lt (by omega) (by omega)]
/-- if the remainders do not go together, no number has both -/
theorem join_none {c1 d1 c2 d2 g y : Int} (hg : g = (Nat.gcd c1.natAbs c2.natAbs : Nat)) (hd : ¬ (d2 - d1) % g = 0) : ¬ (y % c1 = d1 ∧ y % c2 = d2) := by
  rintro ⟨h1, h2⟩
  apply hd
  have gd1 : g ∣ c1 := by rw [hg]; exact Int.gcd_dvd_left c1 c2
  have gd2 : g ∣ c2 := by rw [hg]; exact Int.gcd_dvd_right c1 c2
  have e1 := Int.emod_emod_of_dvd y gd1
  have e2 := Int.emod_emod_of_dvd y gd2
  rw [h1] at e1
  rw [h2] at e2
  rw [Int.sub_emod, e1, e2]; simp
end Ar

set_option linter.all false
set_option maxRecDepth 100000
set_option maxHeartbeats 4000000
namespace Law
open PySem L2 DL Ar

local macro_rules | `(tactic| walk_at "ds") => `(tactic| simp only [dSeq, dAsg, dVar, dVarF, dC, dgTup, dgCons, dgName, dgNil, dRet, dRetN, dAndT, dOrT, dNotT, dChain, dOp, dUn, dTest, dAnd, dOr, dNot, dTru, dIf, dIfS, dNext, dPar, dPar3, dCons, dNil, dTup, dLst, dDrop, dCall, dCB, dRaise, dgItem, dAug,
  rI0D, rID, rAddD, rSubD, rMulD, rDivD, rModD, rPowD, rNegD, rLtD, rLeX, rGtD, rGeD, rEqG, rNeG, rIsNG, rNotNG, rIxG, isNonD, truOf, lstOf, rLenD, rAbsD, rMax2D, rMin2D, rGcdD, endsD, startD,
  List.map_cons, List.map_nil, List.length_cons, List.length_nil, List.append_nil, List.cons_append, List.nil_append, List.replicate, List.getElem?_cons_zero, List.getElem?_cons_succ, List.set_cons_zero, List.set_cons_succ, Nat.reduceAdd, Nat.reduceSub, Nat.zero_add, true_and, and_true, Option.map_some, decide_eq_true_eq, ix0, ix1, ix2, ix3, ix4, ix5, ix6, ix7, ix8, ix9, ix10, sizeLine_eq, Nat.reduceLeDiff, Bool.not_true, Bool.not_false, if_true, if_false, Bool.false_eq_true])

@[reducible] def gd (a b c d : Int) : D := .tup [.int a, .int b, .int c, .int d]
def isG (a b c d : Int) : Bool := (decide (0 ≤ a) && decide (a ≤ b)) && (decide (0 ≤ d) && decide (d < c))
theorem isG_iff {a b c d : Int} : isG a b c d = true ↔ 0 ≤ a ∧ a ≤ b ∧ 0 ≤ d ∧ d < c := by simp [isG, and_assoc]
def lane (a b c d x : Int) : Prop := a ≤ x ∧ x < b ∧ x % c = d
instance (a b c d x : Int) : Decidable (lane a b c d x) := by unfold lane; infer_instance
local macro_rules | `(tactic| walk_at "bl") => `(tactic| (apply congrArg D.bl; rw [Bool.eq_iff_iff]; simp only [isG, Bool.and_eq_true, Bool.or_eq_true, Bool.not_eq_true', decide_eq_true_eq, decide_eq_false_iff_not]; (try simp only [lane]); (try simp only [Bool.false_eq_true, false_iff, iff_false, iff_true, true_iff]); omega))

def c_is_guard (A : Cls) : DSp := fun ds μ q e => ∃ a b c d, ds = [gd a b c d] ∧ q (.bl (isG a b c d)) μ
theorem len_is_guard {A : Cls} : ∀ ds μ q e, c_is_guard A ds μ q e → ds.length = 1 := fun ds μ q e ⟨_, _, _, _, h, _⟩ => by rw [h]; rfl
theorem ok_is_guard {A : Cls} : ∀ ds μ q e, c_is_guard A ds μ q e → rd_is_guard A e (endsD q) (startD 5 ds) μ := by
  rintro ds μ q e ⟨a, b, c, d, rfl, h⟩
  walk_at "ds"
  repeat' (first | (refine ite2 (fun hh => ?_) (fun hh => ?_)) | exact fin h (by walk_at "bl"))
def c_check_guard (A : Cls) : DSp := fun ds μ q e => ∃ a b c d, ds = [gd a b c d] ∧ if isG a b c d = true then q .non μ else e A.InvalidGuard (gd a b c d) μ
theorem len_check_guard {A : Cls} : ∀ ds μ q e, c_check_guard A ds μ q e → ds.length = 1 := fun ds μ q e ⟨_, _, _, _, h, _⟩ => by rw [h]; rfl
theorem ok_check_guard {A : Cls} : ∀ ds μ q e, c_check_guard A ds μ q e → rd_check_guard A (c_is_guard A) e (endsD q) (startD 1 ds) μ := by
  rintro ds μ q e ⟨a, b, c, d, rfl, h⟩
  walk_at "ds"
  refine ⟨a, b, c, d, rfl, ?_⟩
  cases hg : isG a b c d <;> simp only [hg, Bool.not_true, Bool.not_false, if_true, if_false, Bool.false_eq_true] at h ⊢
  · exact h
  · exact ⟨μ, Sub.refl μ, h⟩
def c_first_from (A : Cls) : DSp := fun ds μ q e => ∃ a c d, ds = [.int a, .int c, .int d] ∧ 0 < c ∧ q (.int (fst a c d)) μ
theorem len_first_from {A : Cls} : ∀ ds μ q e, c_first_from A ds μ q e → ds.length = 3 := fun ds μ q e ⟨_, _, _, h, _⟩ => by rw [h]; rfl
theorem ok_first_from {A : Cls} : ∀ ds μ q e, c_first_from A ds μ q e → rd_first_from A e (endsD q) (startD 3 ds) μ := by
  rintro ds μ q e ⟨a, c, d, rfl, hc, h⟩
  walk_at "ds"
  exact ⟨hc, μ, Sub.refl μ, h⟩
def c_count_lanes (A : Cls) : DSp := fun ds μ q e => ∃ a b c d, ds = [gd a b c d] ∧ if isG a b c d = true then c < 2 ^ 256 ∧ q (.int (cnt a b c d)) μ else e A.InvalidGuard (gd a b c d) μ
theorem len_count_lanes {A : Cls} : ∀ ds μ q e, c_count_lanes A ds μ q e → ds.length = 1 := fun ds μ q e ⟨_, _, _, _, h, _⟩ => by rw [h]; rfl
theorem ok_count_lanes {A : Cls} : ∀ ds μ q e, c_count_lanes A ds μ q e → rd_count_lanes A (c_check_guard A) (c_first_from A) e (endsD q) (startD 6 ds) μ := by
  rintro ds μ q e ⟨a, b, c, d, rfl, h⟩
  walk_at "ds"
  refine ⟨a, b, c, d, rfl, ?_⟩
  cases hg : isG a b c d
  · rw [hg] at h; exact h
  rw [hg] at h
  simp only [if_true] at h ⊢
  obtain ⟨h1, h2, h3, h4⟩ := isG_iff.mp hg
  refine ⟨a, c, d, rfl, by omega, ?_⟩
  exact ⟨CDiv_of (by omega) h.1, μ, Sub.refl μ, h.2⟩
def c_nth_lane (A : Cls) : DSp := fun ds μ q e => ∃ a b c d n, ds = [gd a b c d, .int n] ∧ if isG a b c d = true then (b < 2 ^ 256 ∧ c < 2 ^ 256) ∧ (if 0 ≤ n ∧ n < cnt a b c d then q (.int (fst a c d + n * c)) μ else e A.InvalidNumber (.int n) μ) else e A.InvalidGuard (gd a b c d) μ
theorem len_nth_lane {A : Cls} : ∀ ds μ q e, c_nth_lane A ds μ q e → ds.length = 2 := fun ds μ q e ⟨_, _, _, _, _, h, _⟩ => by rw [h]; rfl
theorem ok_nth_lane {A : Cls} : ∀ ds μ q e, c_nth_lane A ds μ q e → rd_nth_lane A (c_count_lanes A) (c_first_from A) e (endsD q) (startD 7 ds) μ := by
  rintro ds μ q e ⟨a, b, c, d, n, rfl, h⟩
  walk_at "ds"
  refine ⟨a, b, c, d, rfl, ?_⟩
  cases hg : isG a b c d
  · rw [hg] at h; exact h
  rw [hg] at h
  simp only [if_true] at h ⊢
  obtain ⟨h1, h2, h3, h4⟩ := isG_iff.mp hg
  obtain ⟨⟨hb, hc⟩, h⟩ := h
  refine ⟨hc, ?_⟩
  refine ite2 (fun z => ?_) (fun z => ?_)
  · rw [if_neg (by omega)] at h; exact h
  refine ite2 (fun z2 => ?_) (fun z2 => ?_)
  · rw [if_neg (by omega)] at h; exact h
  rw [if_pos (by omega)] at h
  refine ⟨a, c, d, rfl, by omega, ?_⟩
  have hl := cnt_le (a := a) (b := b) (d := d) (show 0 < c by omega) h2
  exact ⟨CMul_of (by omega) (by omega) (by omega) (by omega), μ, Sub.refl μ, h⟩
def c_has_lane (A : Cls) : DSp := fun ds μ q e => ∃ a b c d x, ds = [gd a b c d, .int x] ∧ if isG a b c d = true then q (.bl (decide (lane a b c d x))) μ else e A.InvalidGuard (gd a b c d) μ
theorem len_has_lane {A : Cls} : ∀ ds μ q e, c_has_lane A ds μ q e → ds.length = 2 := fun ds μ q e ⟨_, _, _, _, _, h, _⟩ => by rw [h]; rfl
theorem ok_has_lane {A : Cls} : ∀ ds μ q e, c_has_lane A ds μ q e → rd_has_lane A (c_check_guard A) e (endsD q) (startD 6 ds) μ := by
  rintro ds μ q e ⟨a, b, c, d, x, rfl, h⟩
  walk_at "ds"
  refine ⟨a, b, c, d, rfl, ?_⟩
  cases hg : isG a b c d
  · rw [hg] at h; exact h
  rw [hg] at h
  simp only [if_true] at h ⊢
  obtain ⟨h1, h2, h3, h4⟩ := isG_iff.mp hg
  have hc : CModD x c := show 0 < c by omega
  repeat' (refine ite2 (fun hh => ?_) (fun hh => ?_))
  all_goals (first | (refine fin h ?_) | refine ⟨hc, fin h ?_⟩)
  all_goals (walk_at "bl")
def c_cut (A : Cls) : DSp := fun ds μ q e => ∃ a b c d lo hi, ds = [gd a b c d, .int lo, .int hi] ∧ q (gd (if a > lo then a else lo) (if (if b < hi then b else hi) > (if a > lo then a else lo) then (if b < hi then b else hi) else (if a > lo then a else lo)) c d) μ
theorem len_cut {A : Cls} : ∀ ds μ q e, c_cut A ds μ q e → ds.length = 3 := fun ds μ q e ⟨_, _, _, _, _, _, h, _⟩ => by rw [h]; rfl
end Law

set_option linter.all false
set_option maxRecDepth 100000
set_option maxHeartbeats 1000000
/-! kernels: names, statements, barriers, Kernel's own -/
namespace Law
open PySem L2 DL Ar
def sgOk (c : Nat) : Bool := !decide ((⟨#[c]⟩ : Str).cps.toList < ("a" : Str).cps.toList) && !decide (("z" : Str).cps.toList < (⟨#[c]⟩ : Str).cps.toList)
def nmOk (z : Str) : Bool := decide ((1 : Int) ≤ (z.length : Nat)) && decide (((z.length : Nat) : Int) ≤ 8) && z.cps.toList.all sgOk
theorem chain_le {a b : Bool} {q : DK} {μ : Mu} (h : q (.bl (a && b)) μ) : if a = true then q (.bl b) μ else q (.bl false) μ := by
  cases a <;> exact h
def c_is_array_name (A : Cls) : DSp := fun ds μ q e => ∃ z : Str, ds = [.str z] ∧ z.length ≤ 1000 ∧ q (.bl (nmOk z)) μ
theorem len_is_array_name {A : Cls} : ∀ ds μ q e, c_is_array_name A ds μ q e → ds.length = 1 := fun ds μ q e ⟨_, h, _⟩ => by rw [h]; rfl
theorem str_len (z : Str) : z.length = z.cps.toList.length := rfl
theorem ok_is_array_name {A : Cls} : ∀ ds μ q e, c_is_array_name A ds μ q e → rd_is_array_name A e (endsD q) (startD 2 ds) μ := by
  rintro ds μ q e ⟨z, rfl, hz, h⟩
  refine ⟨by rw [sizeLine_eq]; omega, ?_⟩
  have all : ∀ q2 : DK, q2 (.bl (z.cps.toList.all sgOk)) μ → (dCB rAllD (dCons (dLc (diSq (dVar 0)) (dgName 1) dYes (dChain rLeX rLeX (dC (.str "a")) (dVar 1) (dC (.str "z"))) [1]) dNil)) (startD 2 [.str z]) μ q2 := fun q2 k => by
    refine ⟨fun i l μ' => μ' = μ ∧ l = ((z.cps.toList.take i).map sgOk).map D.bl, ⟨rfl, rfl⟩, fun i l μ' hi hP => ⟨trivial, ?_⟩, ?_, ?_⟩
    · rw [hP.2, List.length_map, List.length_map, List.length_take, sizeLine_eq]
      rw [str_len] at hz
      omega
    · rintro i d l μ' hi ⟨rfl, rfl⟩
      unfold sgs at hi
      obtain ⟨c, hc, rfl⟩ := map_get hi
      have step : ∀ y : D, y = .bl (sgOk c) → μ' = μ' ∧ ((z.cps.toList.take i).map sgOk).map D.bl ++ [y] = ((z.cps.toList.take (i + 1)).map sgOk).map D.bl := fun y e => by
        refine ⟨rfl, ?_⟩
        rw [List.take_add_one, hc, List.map_append, List.map_append, e]
        rfl
      refine iteB (fun h1 => step _ ?_) (fun h1 => step _ ?_)
      · unfold sgOk
        rw [show (!decide ((⟨#[c]⟩ : Str).cps.toList < ("a" : Str).cps.toList)) = true from h1]; rfl
      · unfold sgOk
        rw [show (!decide ((⟨#[c]⟩ : Str).cps.toList < ("a" : Str).cps.toList)) = false from h1]; rfl
    · rintro l μ' ⟨rfl, rfl⟩
      refine ⟨_, rfl, ?_⟩
      have e : (z.cps.toList.take (sgs z).length).map sgOk = z.cps.toList.map sgOk := by
        rw [show (sgs z).length = z.cps.toList.length by simp [sgs], List.take_length]
      rw [e, List.all_map]
      exact k
  have e0 : ∀ b : Bool, nmOk z = b → q (.bl b) μ := fun b e => e ▸ h
  refine iteD (fun h1 => ?_) (fun h1 => ?_)
  · by_cases h2 : ((z.length : Nat) : Int) ≤ 8
    · refine iteDT h2 ?_
      refine all _ ?_
      refine fin (e0 _ ?_) rfl
      unfold nmOk
      rw [decide_eq_true h1, decide_eq_true h2]; rfl
    · refine iteDF h2 ?_
      refine fin (e0 false ?_) (congrArg D.bl (decide_eq_false h2))
      unfold nmOk
      rw [decide_eq_false h2, Bool.and_false]; rfl
  · refine fin (e0 false ?_) rfl
    unfold nmOk
    rw [decide_eq_false h1]; rfl
/-! ### statements -/
structure G4 where
  a : Int
  b : Int
  c : Int
  d : Int
@[reducible] def G4.D (g : G4) : D := gd g.a g.b g.c g.d
def G4.ok (g : G4) : Bool := isG g.a g.b g.c g.d
inductive St where
  | put (g : G4) (nm : Str) (a b c d : Int)
  | move (g : G4) (nm : Str) (a b : Int) (src : Str) (a2 b2 d : Int)
  | sum (g : G4) (nm : Str) (a b : Int) (src : Str) (a2 b2 : Int) (oth : Str) (a3 b3 : Int)
def St.d : St → D
  | .put g nm a b c d => .tup [.str "put", g.D, .str nm, .int a, .int b, .int c, .int d]
  | .move g nm a b src a2 b2 d => .tup [.str "move", g.D, .str nm, .int a, .int b, .str src, .int a2, .int b2, .int d]
  | .sum g nm a b src a2 b2 oth a3 b3 => .tup [.str "sum", g.D, .str nm, .int a, .int b, .str src, .int a2, .int b2, .str oth, .int a3, .int b3]
def St.g : St → G4
  | .put g .. => g
  | .move g .. => g
  | .sum g .. => g
def St.nms : St → List Str
  | .put _ nm .. => [nm]
  | .move _ nm _ _ src .. => [nm, src]
  | .sum _ nm _ _ src _ _ oth .. => [nm, src, oth]
def St.ok (s : St) (N : Int) : Bool := s.nms.all nmOk && (s.g.ok && decide (s.g.b ≤ N))
def St.short (s : St) : Prop := ∀ z ∈ s.nms, z.length ≤ 1000
def c_is_statement (A : Cls) : DSp := fun ds μ q e => ∃ (s : St) (N : Int), ds = [s.d, .int N] ∧ s.short ∧ q (.bl (s.ok N)) μ
theorem len_is_statement {A : Cls} : ∀ ds μ q e, c_is_statement A ds μ q e → ds.length = 2 := fun ds μ q e ⟨_, _, h, _⟩ => by rw [h]; rfl
/-- behind the names: the guard -/
theorem st_tail {A : Cls} {s : St} {N : Int} {μ : Mu} {q : DK} {e : DX} {x2 x4 : Option D} (h : q (.bl (s.g.ok && decide (s.g.b ≤ N))) μ) :
    dRet (dAndT (dCall (c_is_guard A) e [] (dCons (dVar 3) dNil)) (dOp rLeX (dOp rIxG (dVar 3) (dC (.int 1))) (dVar 1))) (endsD q) [some s.d, some (.int N), x2, some s.g.D, x4] μ := by
  refine ⟨s.g.a, s.g.b, s.g.c, s.g.d, rfl, ?_⟩
  have e1 : isG s.g.a s.g.b s.g.c s.g.d = s.g.ok := rfl
  rw [e1]
  cases hg : s.g.ok with
  | true => rw [hg] at h; exact fin h rfl
  | false => rw [hg] at h; exact fin h rfl
theorem ok_is_statement {A : Cls} : ∀ ds μ q e, c_is_statement A ds μ q e → rd_is_statement A (c_is_array_name A) (c_is_guard A) e (endsD q) (startD 5 ds) μ := by
  rintro ds μ q e ⟨s, N, rfl, hs, h⟩
  cases s with
  | put g nm a b c d =>
    refine ⟨rfl, .inl ⟨_, rfl, ?_⟩⟩
    refine ⟨rfl, _, rfl, ?_⟩
    refine ⟨rfl, _, rfl, ?_⟩
    refine ⟨fun i l μ' => μ' = μ ∧ l = (([nm].take i).map nmOk).map D.bl, ⟨rfl, rfl⟩, fun i l μ' hi hP => ⟨trivial, ?_⟩, ?_, ?_⟩
    · rw [hP.2, List.length_map, List.length_map, List.length_take, sizeLine_eq]; simp only [List.length_cons, List.length_nil]; omega
    · rintro i x l μ' hi ⟨rfl, rfl⟩
      match i, hi with
      | 0, hi =>
        obtain rfl : D.int 2 = x := by simpa using hi
        exact ⟨nm, rfl, hs nm (by simp [St.nms]), rfl, rfl⟩
      | i + 1, hi => simp at hi
    · rintro l μ' ⟨rfl, rfl⟩
      refine ⟨_, rfl, ?_⟩
      have en : (([nm].take 1).map nmOk).all id = nmOk nm := by simp
      cases hn : nmOk nm with
      | true =>
        have e2 : (St.put g nm a b c d).ok N = (g.ok && decide (g.b ≤ N)) := by
          simp only [St.ok, St.nms, St.g, List.all_cons, List.all_nil, Bool.and_true, hn, Bool.true_and]
          rfl
        rw [e2] at h
        refine iteF (by show (!((([nm].take 1).map nmOk).all id)) = false; rw [en, hn]; rfl) ?_
        exact st_tail (A := A) (e := e) (s := .put g nm a b c d) h
      | false =>
        have e2 : (St.put g nm a b c d).ok N = false := by simp [St.ok, St.nms, St.g, hn]
        rw [e2] at h
        refine iteT (by show (!((([nm].take 1).map nmOk).all id)) = true; rw [en, hn]; rfl) ?_
        exact fin h rfl
  | move g nm a b src a2 b2 d =>
    refine ⟨rfl, .inl ⟨_, rfl, ?_⟩⟩
    refine ⟨rfl, _, rfl, ?_⟩
    refine ⟨rfl, _, rfl, ?_⟩
    refine ⟨fun i l μ' => μ' = μ ∧ l = (([nm, src].take i).map nmOk).map D.bl, ⟨rfl, rfl⟩, fun i l μ' hi hP => ⟨trivial, ?_⟩, ?_, ?_⟩
    · rw [hP.2, List.length_map, List.length_map, List.length_take, sizeLine_eq]; simp only [List.length_cons, List.length_nil]; omega
    · rintro i x l μ' hi ⟨rfl, rfl⟩
      match i, hi with
      | 0, hi =>
        obtain rfl : D.int 2 = x := by simpa using hi
        exact ⟨nm, rfl, hs nm (by simp [St.nms]), rfl, rfl⟩
      | 1, hi =>
        obtain rfl : D.int 5 = x := by simpa using hi
        exact ⟨src, rfl, hs src (by simp [St.nms]), rfl, rfl⟩
      | i + 2, hi => simp at hi
    · rintro l μ' ⟨rfl, rfl⟩
      refine ⟨_, rfl, ?_⟩
      have en : (([nm, src].take 2).map nmOk).all id = (nmOk nm && nmOk src) := by simp
      cases hn : (nmOk nm && nmOk src) with
      | true =>
        have e2 : (St.move g nm a b src a2 b2 d).ok N = (g.ok && decide (g.b ≤ N)) := by simp only [St.ok, St.nms, St.g, List.all_cons, List.all_nil, Bool.and_true, hn, Bool.true_and]; rfl
        rw [e2] at h
        refine iteF (by show (!((([nm, src].take 2).map nmOk).all id)) = false; rw [en, hn]; rfl) ?_
        exact st_tail (A := A) (e := e) (s := .move g nm a b src a2 b2 d) h
      | false =>
        have e2 : (St.move g nm a b src a2 b2 d).ok N = false := by simp only [St.ok, St.nms, St.g, List.all_cons, List.all_nil, Bool.and_true, hn, Bool.false_and]
        rw [e2] at h
        refine iteT (by show (!((([nm, src].take 2).map nmOk).all id)) = true; rw [en, hn]; rfl) ?_
        exact fin h rfl
  | sum g nm a b src a2 b2 oth a3 b3 =>
    refine ⟨rfl, .inl ⟨_, rfl, ?_⟩⟩
    refine ⟨rfl, _, rfl, ?_⟩
    refine ⟨rfl, _, rfl, ?_⟩
    refine ⟨fun i l μ' => μ' = μ ∧ l = (([nm, src, oth].take i).map nmOk).map D.bl, ⟨rfl, rfl⟩, fun i l μ' hi hP => ⟨trivial, ?_⟩, ?_, ?_⟩
    · rw [hP.2, List.length_map, List.length_map, List.length_take, sizeLine_eq]; simp only [List.length_cons, List.length_nil]; omega
    · rintro i x l μ' hi ⟨rfl, rfl⟩
      match i, hi with
      | 0, hi =>
        obtain rfl : D.int 2 = x := by simpa using hi
        exact ⟨nm, rfl, hs nm (by simp [St.nms]), rfl, rfl⟩
      | 1, hi =>
        obtain rfl : D.int 5 = x := by simpa using hi
        exact ⟨src, rfl, hs src (by simp [St.nms]), rfl, rfl⟩
      | 2, hi =>
        obtain rfl : D.int 8 = x := by simpa using hi
        exact ⟨oth, rfl, hs oth (by simp [St.nms]), rfl, rfl⟩
      | i + 3, hi => simp at hi
    · rintro l μ' ⟨rfl, rfl⟩
      refine ⟨_, rfl, ?_⟩
      have en : (([nm, src, oth].take 3).map nmOk).all id = (nmOk nm && (nmOk src && nmOk oth)) := by simp
      cases hn : (nmOk nm && (nmOk src && nmOk oth)) with
      | true =>
        have e2 : (St.sum g nm a b src a2 b2 oth a3 b3).ok N = (g.ok && decide (g.b ≤ N)) := by simp only [St.ok, St.nms, St.g, List.all_cons, List.all_nil, Bool.and_true, hn, Bool.true_and]; rfl
        rw [e2] at h
        refine iteF (by show (!((([nm, src, oth].take 3).map nmOk).all id)) = false; rw [en, hn]; rfl) ?_
        exact st_tail (A := A) (e := e) (s := .sum g nm a b src a2 b2 oth a3 b3) h
      | false =>
        have e2 : (St.sum g nm a b src a2 b2 oth a3 b3).ok N = false := by simp only [St.ok, St.nms, St.g, List.all_cons, List.all_nil, Bool.and_true, hn, Bool.false_and]
        rw [e2] at h
        refine iteT (by show (!((([nm, src, oth].take 3).map nmOk).all id)) = true; rw [en, hn]; rfl) ?_
        exact fin h rfl
end Law

set_option linter.all false
set_option maxRecDepth 100000
set_option maxHeartbeats 1000000
/-! Kernel: made, its lanes, statements, length -/
namespace Law
open PySem L2 DL Ar
def c_check_lanes (A : Cls) : DSp := fun ds μ q e => ∃ N, ds = [.int N] ∧ if N < 1 then e A.InvalidLanes (.int N) μ else q .non μ
theorem len_check_lanes {A : Cls} : ∀ ds μ q e, c_check_lanes A ds μ q e → ds.length = 1 := fun ds μ q e ⟨_, h, _⟩ => by rw [h]; rfl
theorem ok_check_lanes {A : Cls} : ∀ ds μ q e, c_check_lanes A ds μ q e → rd_check_lanes A e (endsD q) (startD 1 ds) μ := by
  rintro ds μ q e ⟨N, rfl, h⟩
  refine iteD (fun z => ?_) (fun z => ?_)
  · rw [if_pos z] at h; exact h
  · rw [if_neg z] at h; exact fin h rfl
def c_check_statement (A : Cls) : DSp := fun ds μ q e => ∃ (s : St) (i : Int) (N : Int), ds = [s.d, .int i, .int N] ∧ s.short ∧ if s.ok N = true then q .non μ else e A.InvalidStatement (.int i) μ
theorem len_check_statement {A : Cls} : ∀ ds μ q e, c_check_statement A ds μ q e → ds.length = 3 := fun ds μ q e ⟨_, _, _, h, _⟩ => by rw [h]; rfl
theorem ok_check_statement {A : Cls} : ∀ ds μ q e, c_check_statement A ds μ q e → rd_check_statement A (c_is_statement A) e (endsD q) (startD 3 ds) μ := by
  rintro ds μ q e ⟨s, i, N, rfl, hs, h⟩
  refine ⟨s, N, rfl, hs, ?_⟩
  cases hk : s.ok N with
  | true => rw [hk] at h; exact fin h rfl
  | false => rw [hk] at h; exact h
/-- ascending barriers, from a place on -/
def brOk (many : Int) : Int → List Int → Prop
  | _, [] => True
  | bf, b :: r => bf < b ∧ b < many ∧ brOk many b r
theorem enum_get {l : List D} {i : Nat} {d : D} (h : (enumD 0 l)[i]? = some d) : ∃ x, l[i]? = some x ∧ d = .tup [.int (i : Nat), x] := by
  cases e : l[i]? with
  | none =>
    have h1 : l.length ≤ i := List.getElem?_eq_none_iff.mp e
    rw [List.getElem?_eq_none_iff.mpr (by rw [enumD_len]; exact h1)] at h
    cases h
  | some x =>
    have := enumD_get (k := 0) e
    rw [this, Nat.zero_add] at h
    exact ⟨x, rfl, (Option.some.inj h).symm⟩
/-- a list that may be walked -/
def seqD : D → List D → Prop := fun d l => d = .tup l ∨ d = .lst l
theorem for_seq {te : DTA} {g : DTG} {tb : DTS} {E : DEnds} {δ : DS} {μ : Mu} {d : D} {l : List D} (hs : seqD d l) (ht : ∀ q : List D → Mu → Prop, q [d] μ → te δ μ q)
    (P : Nat → DS → Mu → Prop) (p0 : P 0 δ μ) (step : ∀ i x δ μ, l[i]? = some x → P i δ μ → g (.tup [.int (i : Nat), x]) δ μ fun δ2 μ2 => tb { E with nx := P (i + 1), ct := P (i + 1), bk := E.nx } δ2 μ2) (done : ∀ δ μ, P l.length δ μ → E.nx δ μ) :
    dFor (diEnX te) g tb E δ μ := by
  have core : ∃ P : Nat → DS → Mu → Prop, P 0 δ μ ∧ (∀ i δ μ, i ≤ (enumD 0 l).length → P i δ μ → True) ∧
      (∀ i d δ μ, (enumD 0 l)[i]? = some d → P i δ μ → g d δ μ fun δ2 μ2 => tb { E with nx := P (i + 1), ct := P (i + 1), bk := E.nx } δ2 μ2) ∧ ∀ δ μ, P (enumD 0 l).length δ μ → E.nx δ μ := by
    refine ⟨P, p0, fun _ _ _ _ _ => trivial, fun i d δ μ hi hp => ?_, fun δ μ hp => done δ μ (by rw [enumD_len] at hp; exact hp)⟩
    obtain ⟨x, hx, rfl⟩ := enum_get hi
    exact step i x δ μ hx hp
  refine ht _ ?_
  rcases hs with rfl | rfl
  · exact core
  · exact core
def c_check_barriers (A : Cls) : DSp := fun ds μ q e => ∃ (y : D) (bs : List Int) (many : Int), ds = [y, .int many] ∧ seqD y (bs.map D.int) ∧ brOk many 0 bs ∧ q .non μ
theorem len_check_barriers {A : Cls} : ∀ ds μ q e, c_check_barriers A ds μ q e → ds.length = 2 := fun ds μ q e ⟨_, _, _, h, _⟩ => by rw [h]; rfl
theorem drop_get {α : Type} {l : List α} {i : Nat} {b : α} (h : l[i]? = some b) : l.drop i = b :: l.drop (i + 1) := by
  obtain ⟨hl, e⟩ := List.getElem?_eq_some_iff.mp h
  rw [List.drop_eq_getElem_cons hl, e]
theorem ok_check_barriers {A : Cls} : ∀ ds μ q e, c_check_barriers A ds μ q e → rd_check_barriers A e (endsD q) (startD 5 ds) μ := by
  rintro ds μ q e ⟨y, bs, many, rfl, hy, hb, h⟩
  refine for_seq (te := dCons (dVar 0) dNil) hy ?ht (fun i δ μ' => μ' = μ ∧ ∃ bf t u, δ = [some y, some (.int many), some (.int bf), t, u] ∧ brOk many bf (bs.drop i)) ⟨rfl, 0, none, none, rfl, hb⟩ ?_ ?_
  case ht => exact fun q k => k
  · rintro i x δ μ' hi ⟨rfl, bf, t, u, rfl, hk⟩
    obtain ⟨b, hb', rfl⟩ := map_get hi
    rw [drop_get hb'] at hk
    obtain ⟨k1, k2, k3⟩ := hk
    refine ⟨rfl, ?_⟩
    refine iteDF (by omega) ?_
    refine iteDF (by omega) ?_
    exact ⟨rfl, b, _, _, rfl, k3⟩
  · rintro δ μ' ⟨rfl, bf, t, u, rfl, _⟩
    exact fin h rfl
def kns : List Str := ["_lanes", "_statements", "_barriers", "_racing"]
def kD (A : Cls) (N : Int) (ss : List St) (bs : List Int) : D := .ins A.Kernel kns [.int N, .lst (ss.map St.d), .lst (bs.map D.int), .non]
/-- statements, barriers of a kernel -/
def kOk (N : Int) (ss : List St) (bs : List Int) : Prop := 1 ≤ N ∧ (∀ s ∈ ss, s.ok N = true ∧ s.short) ∧ ss.length ≤ 1000 ∧ bs.length ≤ 1000 ∧ brOk (ss.length : Nat) 0 bs
def c_Kernel___init__ (A : Cls) : DSp := fun ds μ q e => ∃ (p : Addr) (N : Int) (x y : D) (ss : List St) (bs : List Int), ds = [.adr p, .int N, x, y] ∧ μ p = some (.obj A.Kernel [] []) ∧ seqD x (ss.map St.d) ∧ seqD y (bs.map D.int) ∧ kOk N ss bs ∧
  q .non (updM μ p (.obj A.Kernel kns [.int N, .lst (ss.map St.d), .lst (bs.map D.int), .non]))
theorem len_Kernel___init__ {A : Cls} : ∀ ds μ q e, c_Kernel___init__ A ds μ q e → ds.length = 4 := fun ds μ q e ⟨_, _, _, _, _, _, h, _⟩ => by rw [h]; rfl
theorem ne_ls : ¬ (("_lanes" : Str) = "_statements") := by decide +kernel
theorem ne_lb : ¬ (("_lanes" : Str) = "_barriers") := by decide +kernel
theorem ne_sb : ¬ (("_statements" : Str) = "_barriers") := by decide +kernel
theorem ne_lr : ¬ (("_lanes" : Str) = "_racing") := by decide +kernel
theorem ne_sr : ¬ (("_statements" : Str) = "_racing") := by decide +kernel
theorem ne_br : ¬ (("_barriers" : Str) = "_racing") := by decide +kernel
theorem put1 (x : D) : putN "_lanes" x [] [] = ([("_lanes" : Str)], [x]) := rfl
theorem put2 (x y : D) : putN "_statements" y [("_lanes" : Str)] [x] = ([("_lanes" : Str), "_statements"], [x, y]) := by
  simp only [putN, if_neg ne_ls]
theorem put3 (x y z : D) : putN "_barriers" z [("_lanes" : Str), "_statements"] [x, y] = ([("_lanes" : Str), "_statements", "_barriers"], [x, y, z]) := by
  simp only [putN, if_neg ne_lb, if_neg ne_sb]
theorem put4 (x y z u : D) : putN "_racing" u [("_lanes" : Str), "_statements", "_barriers"] [x, y, z] = (kns, [x, y, z, u]) := by
  simp only [putN, if_neg ne_lr, if_neg ne_sr, if_neg ne_br]; rfl
theorem lt1 (x : D) : (putN "_lanes" x [] []).1.length < 1000 := (by decide : 1 < 1000)
theorem lt2 (x y : D) : (putN "_statements" y (putN "_lanes" x [] []).1 (putN "_lanes" x [] []).2).1.length < 1000 := by
  rw [put1, put2]; exact (by decide : 2 < 1000)
theorem lt3 (x y z : D) : (putN "_barriers" z (putN "_statements" y (putN "_lanes" x [] []).1 (putN "_lanes" x [] []).2).1 (putN "_statements" y (putN "_lanes" x [] []).1 (putN "_lanes" x [] []).2).2).1.length < 1000 := by
  rw [put1, put2, put3]; exact (by decide : 3 < 1000)
theorem seq_of {μ : Mu} {d : D} {l : List D} (h : seqD d l) : seqOf μ d = some l := by
  rcases h with rfl | rfl <;> rfl
theorem list_of {μ : Mu} {d : D} {l : List D} {q : DK} (h : seqD d l) (k : q (.lst l) μ) : rListD [d] μ q := by
  rcases h with rfl | rfl <;> exact k
theorem len_of {μ : Mu} {d : D} {l : List D} {q : DK} (h : seqD d l) (k : q (.int (l.length : Nat)) μ) : rLenD [d] μ q := by
  rcases h with rfl | rfl <;> exact k
theorem ok_Kernel___init__ {A : Cls} : ∀ ds μ q e, c_Kernel___init__ A ds μ q e → rd_Kernel___init__ A (c_check_barriers A) (c_check_lanes A) (c_check_statement A) e (endsD q) (startD 6 ds) μ := by
  rintro ds μ q e ⟨p, N, x, y, ss, bs, rfl, hp, hx, hy, ⟨hN, hss, hl, hl2, hb⟩, h⟩
  refine ⟨N, rfl, ?_⟩
  rw [if_neg (by omega)]
  refine for_seq (te := dCons (dVar 2) dNil) hx ?ht (fun i δ μ' => μ' = μ ∧ ∃ t u, δ = [some (.adr p), some (.int N), some x, some y, t, u]) ⟨rfl, none, none, rfl⟩ ?_ ?_
  case ht => exact fun q k => k
  · rintro i z δ μ' hi ⟨rfl, t, u, rfl⟩
    obtain ⟨s, hs, rfl⟩ := map_get hi
    obtain ⟨h1, h2⟩ := hss s (List.mem_of_getElem? hs)
    refine ⟨rfl, s, _, N, rfl, h2, ?_⟩
    rw [if_pos h1]
    exact ⟨rfl, _, _, rfl⟩
  · rintro δ μ' ⟨rfl, t, u, rfl⟩
    have hb' : brOk (((ss.map St.d).length : Nat) : Int) 0 bs := by rw [List.length_map]; exact hb
    have fin3 : ∃ μ2, Sub μ2 (updM (updM (updM (updM μ' p (.obj A.Kernel ["_lanes"] [.int N])) p (.obj A.Kernel ["_lanes", "_statements"] [.int N, .lst (ss.map St.d)])) p (.obj A.Kernel ["_lanes", "_statements", "_barriers"] [.int N, .lst (ss.map St.d), .lst (bs.map D.int)])) p (.obj A.Kernel kns [.int N, .lst (ss.map St.d), .lst (bs.map D.int), .non])) ∧ q .non μ2 := by
      rw [updM_updM, updM_updM, updM_updM]
      exact ⟨_, Sub.refl _, h⟩
    have s2 : putN "_statements" (.lst (ss.map St.d)) [("_lanes" : Str)] [D.int N] = ([("_lanes" : Str), "_statements"], [.int N, .lst (ss.map St.d)]) := put2 _ _
    have s3 : putN "_barriers" (.lst (bs.map D.int)) [("_lanes" : Str), "_statements"] [D.int N, .lst (ss.map St.d)] = ([("_lanes" : Str), "_statements", "_barriers"], [.int N, .lst (ss.map St.d), .lst (bs.map D.int)]) := put3 _ _ _
    have s4 : putN "_racing" .non [("_lanes" : Str), "_statements", "_barriers"] [D.int N, .lst (ss.map St.d), .lst (bs.map D.int)] = (kns, [.int N, .lst (ss.map St.d), .lst (bs.map D.int), .non]) := put4 _ _ _ _
    rcases hx with rfl | rfl <;> rcases hy with rfl | rfl
    all_goals
      refine ⟨_, bs, _, rfl, (by first | exact .inl rfl | exact .inr rfl), hb', ?_⟩
      refine ⟨[], [], hp, by decide, ?_⟩
      refine ⟨_, _, updM_same _ _ _, lt1 _, ?_⟩
      refine ⟨_, _, updM_same _ _ _, lt2 _ _, ?_⟩
      refine ⟨_, _, updM_same _ _ _, lt3 _ _ _, ?_⟩
      rw [put1, s2, s3, s4]
      exact fin3
theorem kfld {A : Cls} {N : Int} {ss : List St} {bs : List Int} {f : Str} {d : D} (h : (kns.zip [D.int N, .lst (ss.map St.d), .lst (bs.map D.int), .non]).lookup f = some d) {δ : DS} {μ : Mu} {q : DK} {te : DTE} (ht : ∀ q : DK, q (kD A N ss bs) μ → te δ μ q) (k : q d μ) : dFld A.Kernel f te δ μ q :=
  ht _ ⟨rfl, d, h, k⟩
def c_Kernel_lanes (A : Cls) : DSp := fun ds μ q e => ∃ N ss bs, ds = [kD A N ss bs] ∧ q (.int N) μ
theorem len_Kernel_lanes {A : Cls} : ∀ ds μ q e, c_Kernel_lanes A ds μ q e → ds.length = 1 := fun ds μ q e ⟨_, _, _, h, _⟩ => by rw [h]; rfl
theorem ok_Kernel_lanes {A : Cls} : ∀ ds μ q e, c_Kernel_lanes A ds μ q e → rd_Kernel_lanes A e (endsD q) (startD 1 ds) μ := by
  rintro ds μ q e ⟨N, ss, bs, rfl, h⟩
  exact ⟨rfl, _, rfl, fin h rfl⟩
def c_Kernel_statements (A : Cls) : DSp := fun ds μ q e => ∃ N ss bs, ds = [kD A N ss bs] ∧ q (.lst (ss.map St.d)) μ
theorem len_Kernel_statements {A : Cls} : ∀ ds μ q e, c_Kernel_statements A ds μ q e → ds.length = 1 := fun ds μ q e ⟨_, _, _, h, _⟩ => by rw [h]; rfl
theorem ok_Kernel_statements {A : Cls} : ∀ ds μ q e, c_Kernel_statements A ds μ q e → rd_Kernel_statements A e (endsD q) (startD 1 ds) μ := by
  rintro ds μ q e ⟨N, ss, bs, rfl, h⟩
  exact ⟨rfl, _, rfl, fin h rfl⟩
def c_Kernel___len__ (A : Cls) : DSp := fun ds μ q e => ∃ N ss bs, ds = [kD A N ss bs] ∧ q (.int (ss.length : Nat)) μ
theorem len_Kernel___len__ {A : Cls} : ∀ ds μ q e, c_Kernel___len__ A ds μ q e → ds.length = 1 := fun ds μ q e ⟨_, _, _, h, _⟩ => by rw [h]; rfl
theorem ok_Kernel___len__ {A : Cls} : ∀ ds μ q e, c_Kernel___len__ A ds μ q e → rd_Kernel___len__ A e (endsD q) (startD 1 ds) μ := by
  rintro ds μ q e ⟨N, ss, bs, rfl, h⟩
  exact ⟨rfl, _, rfl, fin h (congrArg (fun n : Nat => D.int n) (List.length_map ..))⟩
def c_Kernel_barriers (A : Cls) : DSp := fun ds μ q e => ∃ N ss bs, ds = [kD A N ss bs] ∧ q (.lst (bs.map D.int)) μ
theorem len_Kernel_barriers {A : Cls} : ∀ ds μ q e, c_Kernel_barriers A ds μ q e → ds.length = 1 := fun ds μ q e ⟨_, _, _, h, _⟩ => by rw [h]; rfl
theorem ok_Kernel_barriers {A : Cls} : ∀ ds μ q e, c_Kernel_barriers A ds μ q e → rd_Kernel_barriers A e (endsD q) (startD 1 ds) μ := by
  rintro ds μ q e ⟨N, ss, bs, rfl, h⟩
  exact ⟨rfl, _, rfl, fin h rfl⟩
/-- a kernel made with statements alone -/
theorem make_k {A : Cls} {e : DX} {dds : List D} {t : DTA} {δ : DS} {μ : Mu} {q : DK} {N : Int} {x y : D} {ss : List St} {bs : List Int} (as : List D) (ht : ∀ q : List D → Mu → Prop, q as μ → t δ μ q) (ha : as ++ dds = [.int N, x, y])
    (hx : seqD x (ss.map St.d)) (hy : seqD y (bs.map D.int)) (hk : kOk N ss bs) (k : q (kD A N ss bs) μ) : dMakeZ A.Kernel (c_Kernel___init__ A) e dds t δ μ q := by
  refine ht _ fun p hp => ⟨p, N, x, y, ss, bs, by rw [ha], updM_same _ _ _, hx, hy, hk, rfl, kns, _, updM_same _ _ _, ?_⟩
  rw [updM_updM, delM_updM _ hp]
  exact k
end Law

set_option linter.all false
set_option maxRecDepth 100000
set_option maxHeartbeats 1000000
/-! waves -/
namespace Law
open PySem L2 DL Ar
def c_check_wave (A : Cls) : DSp := fun ds μ q e => ∃ w, ds = [.int w] ∧ if 1 ≤ w ∧ w ≤ 32 then q .non μ else e A.InvalidNumber (.int w) μ
theorem len_check_wave {A : Cls} : ∀ ds μ q e, c_check_wave A ds μ q e → ds.length = 1 := fun ds μ q e ⟨_, h, _⟩ => by rw [h]; rfl
theorem ok_check_wave {A : Cls} : ∀ ds μ q e, c_check_wave A ds μ q e → rd_check_wave A e (endsD q) (startD 1 ds) μ := by
  rintro ds μ q e ⟨w, rfl, h⟩
  refine iteD (fun z => ?_) (fun z => ?_)
  · rw [if_neg (by omega)] at h; exact h
  refine iteD (fun z2 => ?_) (fun z2 => ?_)
  · rw [if_neg (by omega)] at h; exact h
  rw [if_pos (by omega)] at h
  exact fin h rfl
def c_check_statement_number (A : Cls) : DSp := fun ds μ q e => ∃ N ss bs s, ds = [kD A N ss bs, .int s] ∧ kOk N ss bs ∧ if 0 ≤ s ∧ s < (ss.length : Nat) then q .non μ else e A.InvalidNumber (.int s) μ
theorem len_check_statement_number {A : Cls} : ∀ ds μ q e, c_check_statement_number A ds μ q e → ds.length = 2 := fun ds μ q e ⟨_, _, _, _, h, _⟩ => by rw [h]; rfl
theorem ok_check_statement_number {A : Cls} : ∀ ds μ q e, c_check_statement_number A ds μ q e → rd_check_statement_number A (c_Kernel___len__ A) e (endsD q) (startD 2 ds) μ := by
  rintro ds μ q e ⟨N, ss, bs, s, rfl, hk, h⟩
  refine iteD (fun z => ?_) (fun z => ?_)
  · rw [if_neg (by omega)] at h; exact h
  refine ⟨rfl, N, ss, bs, rfl, ss.length, rfl, by rw [sizeLine_eq]; have := hk.2.2.1; omega, ?_⟩
  refine iteD (fun z2 => ?_) (fun z2 => ?_)
  · rw [if_neg (by omega)] at h; exact h
  rw [if_pos (by omega)] at h
  exact fin h rfl
def c_check_number_of_wave (A : Cls) : DSp := fun ds μ q e => ∃ N ss bs w n, ds = [kD A N ss bs, .int w, .int n] ∧ -(2 ^ 200) < n ∧ n < 2 ^ 200 ∧ 1 ≤ w ∧ w ≤ 32 ∧ if 0 ≤ n ∧ w * n < N then q .non μ else e A.InvalidNumber (.int n) μ
theorem len_check_number_of_wave {A : Cls} : ∀ ds μ q e, c_check_number_of_wave A ds μ q e → ds.length = 3 := fun ds μ q e ⟨_, _, _, _, _, h, _⟩ => by rw [h]; rfl
theorem ok_check_number_of_wave {A : Cls} : ∀ ds μ q e, c_check_number_of_wave A ds μ q e → rd_check_number_of_wave A (c_Kernel_lanes A) e (endsD q) (startD 3 ds) μ := by
  rintro ds μ q e ⟨N, ss, bs, w, n, rfl, n0, n1, w0, w1, h⟩
  refine iteD (fun z => ?_) (fun z => ?_)
  · rw [if_neg (by omega)] at h; exact h
  refine ⟨CMul_of (by omega) (by omega) (by omega) (by omega), ?_⟩
  refine ⟨rfl, N, ss, bs, rfl, ?_⟩
  refine iteD (fun z2 => ?_) (fun z2 => ?_)
  · rw [if_neg (by omega)] at h; exact h
  rw [if_pos (by omega)] at h
  exact fin h rfl
theorem ok_cut {A : Cls} : ∀ ds μ q e, c_cut A ds μ q e → rd_cut A e (endsD q) (startD 3 ds) μ := by
  rintro ds μ q e ⟨a, b, c, d, lo, hi, rfl, h⟩
  refine ⟨sz 4 rfl (by decide), ?_⟩
  exact fin h rfl
@[reducible] def mx (i j : Int) : Int := if j > i then j else i
@[reducible] def mn (i j : Int) : Int := if j < i then j else i
/-- the lanes of a guard in a wave -/
def wLo (a : Int) (w n : Int) : Int := mx (w * n) a
def wHi (a b : Int) (w n : Int) : Int := mx (wLo a w n) (mn (w * n + w) b)
def c_lanes_of_wave (A : Cls) : DSp := fun ds μ q e => ∃ a b c d w n, ds = [gd a b c d, .int w, .int n] ∧ (1 ≤ w ∧ w ≤ 32) ∧ (-(2 ^ 200) < n ∧ n < 2 ^ 200) ∧ q (gd (wLo a w n) (wHi a b w n) c d) μ
theorem len_lanes_of_wave {A : Cls} : ∀ ds μ q e, c_lanes_of_wave A ds μ q e → ds.length = 3 := fun ds μ q e ⟨_, _, _, _, _, _, h, _⟩ => by rw [h]; rfl
theorem ok_lanes_of_wave {A : Cls} : ∀ ds μ q e, c_lanes_of_wave A ds μ q e → rd_lanes_of_wave A (c_cut A) e (endsD q) (startD 3 ds) μ := by
  rintro ds μ q e ⟨a, b, c, d, w, n, rfl, ⟨w0, w1⟩, ⟨n0, n1⟩, h⟩
  refine ⟨CMul_of (by omega) (by omega) (by omega) (by omega), CMul_of (by omega) (by omega) (by omega) (by omega), ?_⟩
  exact ⟨a, b, c, d, w * n, w * n + w, rfl, fin h rfl⟩
/-- how many waves have a lane -/
def wwl (a b c d w : Int) : Int := if cnt a b c d = 0 ∨ w ≤ c then cnt a b c d else (fst a c d + (cnt a b c d - 1) * c) / w - fst a c d / w + 1
def gB (a b c d : Int) : Prop := isG a b c d = true ∧ b < 2 ^ 200 ∧ c < 2 ^ 200
def c_waves_with_lanes (A : Cls) : DSp := fun ds μ q e => ∃ a b c d w, ds = [gd a b c d, .int w] ∧ gB a b c d ∧ (1 ≤ w ∧ w ≤ 32) ∧ q (.int (wwl a b c d w)) μ
theorem len_waves_with_lanes {A : Cls} : ∀ ds μ q e, c_waves_with_lanes A ds μ q e → ds.length = 2 := fun ds μ q e ⟨_, _, _, _, _, h, _⟩ => by rw [h]; rfl
theorem ok_waves_with_lanes {A : Cls} : ∀ ds μ q e, c_waves_with_lanes A ds μ q e → rd_waves_with_lanes A (c_count_lanes A) (c_nth_lane A) e (endsD q) (startD 3 ds) μ := by
  rintro ds μ q e ⟨a, b, c, d, w, rfl, ⟨hg, hb, hc⟩, ⟨w0, w1⟩, h⟩
  obtain ⟨h1, h2, h3, h4⟩ := isG_iff.mp hg
  have c0 := cnt_nonneg (a := a) (b := b) (d := d) (show 0 < c by omega) h2
  refine ⟨a, b, c, d, rfl, ?_⟩
  rw [if_pos hg]
  refine ⟨by omega, ?_⟩
  unfold wwl at h
  refine iteD (fun z => ?_) (fun z => ?_)
  · rw [if_pos (.inl z)] at h; exact fin h rfl
  refine iteD (fun z2 => ?_) (fun z2 => ?_)
  · rw [if_pos (.inr (by omega))] at h; exact fin h rfl
  rw [if_neg (by omega)] at h
  refine ⟨a, b, c, d, _, rfl, ?_⟩
  rw [if_pos hg]
  refine ⟨⟨by omega, by omega⟩, ?_⟩
  rw [if_pos (by omega)]
  refine ⟨CDiv_of (by omega) (by omega), ?_⟩
  refine ⟨a, b, c, d, _, rfl, ?_⟩
  rw [if_pos hg]
  refine ⟨⟨by omega, by omega⟩, ?_⟩
  rw [if_pos (by omega)]
  refine ⟨CDiv_of (by omega) (by omega), ?_⟩
  refine fin h (congrArg D.int ?_)
  rw [Int.zero_mul, Int.add_zero]
/-- the guard of the statement with a number -/
theorem st_at {ss : List St} {s : Int} (h : 0 ≤ s ∧ s < (ss.length : Nat)) : ∃ t, ss[s.toNat]? = some t ∧ t ∈ ss ∧ ∀ {μ : Mu} {q : DK}, (q t.d μ) → rIxG (.lst (ss.map St.d)) (.int s) μ q := by
  have hl : s.toNat < ss.length := by omega
  refine ⟨ss[s.toNat], by simp [hl], List.getElem_mem hl, fun {μ q} k => ixL h.1 (by rw [List.length_map]; exact h.2) fun v hv => ?_⟩
  obtain ⟨t, h1, rfl⟩ := map_get hv
  rw [List.getElem?_eq_getElem hl] at h1
  obtain rfl := Option.some.inj h1
  exact k
theorem st_guard (t : St) {μ : Mu} {q : DK} (k : q t.g.D μ) : rIxG t.d (.int 1) μ q := by
  cases t <;> exact k
def stG (ss : List St) (s : Int) : G4 := ((ss[s.toNat]?).map St.g).getD ⟨0, 0, 1, 0⟩
theorem stG_eq {ss : List St} {s : Int} {t : St} (h : ss[s.toNat]? = some t) : stG ss s = t.g := by unfold stG; rw [h]; rfl
/-- kernel.statements[statement][1] -/
theorem guard_of {A : Cls} {N : Int} {ss : List St} {bs : List Int} {s : Int} {δ : DS} {μ : Mu} {q : DK} (i j : Nat) (hi : δ[i]? = some (some (kD A N ss bs))) (hj : δ[j]? = some (some (.int s))) (h : 0 ≤ s ∧ s < (ss.length : Nat)) (k : q (stG ss s).D μ) :
    dOp rIxG (dOp rIxG (dProp A.Kernel (c_Kernel_statements A) (dVar i)) (dVar j)) (dC (.int 1)) δ μ q := by
  obtain ⟨t, h1, h2, h3⟩ := st_at h
  unfold dOp dProp dVar
  rw [hi]
  dsimp only
  rw [hj]
  dsimp only
  refine ⟨rfl, N, ss, bs, rfl, ?_⟩
  refine h3 ?_
  refine st_guard t ?_
  rw [stG_eq h1] at k
  exact k
def stOk (N : Int) (ss : List St) : Prop := ∀ s ∈ ss, s.g.c < 2 ^ 200 ∧ s.g.b < 2 ^ 200
theorem stG_ok {N : Int} {ss : List St} {bs : List Int} {s : Int} (hk : kOk N ss bs) (ho : stOk N ss) (h : 0 ≤ s ∧ s < (ss.length : Nat)) : gB (stG ss s).a (stG ss s).b (stG ss s).c (stG ss s).d ∧ (stG ss s).b ≤ N := by
  obtain ⟨t, h1, h2, _⟩ := st_at h
  have e1 := (hk.2.1 t h2).1
  unfold St.ok at e1
  rw [Bool.and_eq_true, Bool.and_eq_true] at e1
  rw [stG_eq h1]
  exact ⟨⟨e1.2.1, (ho t h2).2, (ho t h2).1⟩, of_decide_eq_true e1.2.2⟩
def c_count_waves (A : Cls) : DSp := fun ds μ q e => ∃ N ss bs s w, ds = [kD A N ss bs, .int s, .int w] ∧ kOk N ss bs ∧ stOk N ss ∧
  if 0 ≤ s ∧ s < (ss.length : Nat) then (if 1 ≤ w ∧ w ≤ 32 then q (.int (wwl (stG ss s).a (stG ss s).b (stG ss s).c (stG ss s).d w)) μ else e A.InvalidNumber (.int w) μ) else e A.InvalidNumber (.int s) μ
theorem len_count_waves {A : Cls} : ∀ ds μ q e, c_count_waves A ds μ q e → ds.length = 3 := fun ds μ q e ⟨_, _, _, _, _, h, _⟩ => by rw [h]; rfl
theorem ok_count_waves {A : Cls} : ∀ ds μ q e, c_count_waves A ds μ q e → rd_count_waves A (c_Kernel_statements A) (c_check_statement_number A) (c_check_wave A) (c_waves_with_lanes A) e (endsD q) (startD 3 ds) μ := by
  rintro ds μ q e ⟨N, ss, bs, s, w, rfl, hk, ho, h⟩
  refine ⟨N, ss, bs, s, rfl, hk, ?_⟩
  by_cases hs : 0 ≤ s ∧ s < (ss.length : Nat)
  · rw [if_pos hs] at h ⊢
    refine ⟨w, rfl, ?_⟩
    by_cases hw : 1 ≤ w ∧ w ≤ 32
    · rw [if_pos hw] at h ⊢
      dsimp only
      refine ret_callc (guard_of (N := N) (bs := bs) 0 1 ?h0 ?h1 hs ?_)
      case h0 => rfl
      case h1 => rfl
      exact ⟨_, _, _, _, w, rfl, (stG_ok hk ho hs).1, hw, fin h rfl⟩
    · rw [if_neg hw] at h ⊢; exact h
  · rw [if_neg hs] at h ⊢; exact h
/-- how many waves have nothing but lanes of the guard -/
def fw (N a b c d w : Int) : Int := if w = 1 then cnt a b c d else if c > 1 then (if (N - 1) % w = 0 ∧ lane a b c d (N - 1) then 1 else 0) else mx 0 ((if b = N then (b + w - 1) / w else b / w) - (a + w - 1) / w)
def c_full_waves (A : Cls) : DSp := fun ds μ q e => ∃ N ss bs s w, ds = [kD A N ss bs, .int s, .int w] ∧ kOk N ss bs ∧ stOk N ss ∧
  if 0 ≤ s ∧ s < (ss.length : Nat) then (if 1 ≤ w ∧ w ≤ 32 then q (.int (fw N (stG ss s).a (stG ss s).b (stG ss s).c (stG ss s).d w)) μ else e A.InvalidNumber (.int w) μ) else e A.InvalidNumber (.int s) μ
theorem len_full_waves {A : Cls} : ∀ ds μ q e, c_full_waves A ds μ q e → ds.length = 3 := fun ds μ q e ⟨_, _, _, _, _, h, _⟩ => by rw [h]; rfl
theorem ok_full_waves {A : Cls} : ∀ ds μ q e, c_full_waves A ds μ q e → rd_full_waves A (c_Kernel_lanes A) (c_Kernel_statements A) (c_check_statement_number A) (c_check_wave A) (c_count_lanes A) (c_has_lane A) e (endsD q) (startD 10 ds) μ := by
  rintro ds μ q e ⟨N, ss, bs, s, w, rfl, hk, ho, h⟩
  refine ⟨N, ss, bs, s, rfl, hk, ?_⟩
  by_cases hs : 0 ≤ s ∧ s < (ss.length : Nat)
  · rw [if_pos hs] at h ⊢
    refine ⟨w, rfl, ?_⟩
    by_cases hw : 1 ≤ w ∧ w ≤ 32
    · rw [if_pos hw] at h ⊢
      dsimp only
      refine seq_par (guard_of (N := N) (bs := bs) 0 1 ?h0 ?h1 hs ?_)
      case h0 => rfl
      case h1 => rfl
      obtain ⟨⟨hg, hb, hc⟩, hN⟩ := stG_ok hk ho hs
      obtain ⟨h1, h2, h3, h4⟩ := isG_iff.mp hg
      refine ⟨rfl, N, ss, bs, rfl, ?_⟩
      refine ⟨rfl, ?_⟩
      unfold fw at h
      refine iteD (fun z => ?_) (fun z => ?_)
      · rw [if_pos z] at h
        refine ⟨_, _, _, _, rfl, ?_⟩
        rw [if_pos hg]
        exact ⟨by omega, fin h rfl⟩
      rw [if_neg z] at h
      refine iteD (fun z2 => ?_) (fun z2 => ?_)
      · rw [if_pos z2] at h
        refine ⟨show 0 < w by omega, ?_⟩
        refine iteD (fun z3 => ?_) (fun z3 => ?_)
        · refine ⟨_, _, _, _, _, rfl, ?_⟩
          rw [if_pos hg]
          refine iteD (fun z4 => ?_) (fun z4 => ?_)
          · rw [if_pos ⟨z3, z4⟩] at h; exact fin h rfl
          · rw [if_neg (fun z => z4 z.2)] at h; exact fin h rfl
        · rw [if_neg (fun z => z3 z.1)] at h; exact fin h rfl
      rw [if_neg z2] at h
      refine iteD (fun z3 => ?_) (fun z3 => ?_)
      · rw [if_pos z3] at h
        exact ⟨CDiv_of (by omega) (by omega), CDiv_of (by omega) (by omega), fin h rfl⟩
      · rw [if_neg z3] at h
        exact ⟨CDiv_of (by omega) (by omega), CDiv_of (by omega) (by omega), fin h rfl⟩
    · rw [if_neg hw] at h ⊢; exact h
  · rw [if_neg hs] at h ⊢; exact h
def c_lanes_in_wave (A : Cls) : DSp := fun ds μ q e => ∃ N ss bs s w n, ds = [kD A N ss bs, .int s, .int w, .int n] ∧ kOk N ss bs ∧ stOk N ss ∧ -(2 ^ 200) < n ∧ n < 2 ^ 200 ∧
  if 0 ≤ s ∧ s < (ss.length : Nat) then (if 1 ≤ w ∧ w ≤ 32 then (if 0 ≤ n ∧ w * n < N then q (.int (cnt (wLo (stG ss s).a w n) (wHi (stG ss s).a (stG ss s).b w n) (stG ss s).c (stG ss s).d)) μ else e A.InvalidNumber (.int n) μ) else e A.InvalidNumber (.int w) μ) else e A.InvalidNumber (.int s) μ
theorem len_lanes_in_wave {A : Cls} : ∀ ds μ q e, c_lanes_in_wave A ds μ q e → ds.length = 4 := fun ds μ q e ⟨_, _, _, _, _, _, h, _⟩ => by rw [h]; rfl
theorem ok_lanes_in_wave {A : Cls} : ∀ ds μ q e, c_lanes_in_wave A ds μ q e → rd_lanes_in_wave A (c_Kernel_statements A) (c_check_number_of_wave A) (c_check_statement_number A) (c_check_wave A) (c_count_lanes A) (c_lanes_of_wave A) e (endsD q) (startD 4 ds) μ := by
  rintro ds μ q e ⟨N, ss, bs, s, w, n, rfl, hk, ho, n0, n1, h⟩
  refine ⟨N, ss, bs, s, rfl, hk, ?_⟩
  by_cases hs : 0 ≤ s ∧ s < (ss.length : Nat)
  · rw [if_pos hs] at h ⊢
    refine ⟨w, rfl, ?_⟩
    by_cases hw : 1 ≤ w ∧ w ≤ 32
    · rw [if_pos hw] at h ⊢
      refine ⟨N, ss, bs, w, n, rfl, n0, n1, hw.1, hw.2, ?_⟩
      by_cases hn : 0 ≤ n ∧ w * n < N
      · rw [if_pos hn] at h ⊢
        dsimp only
        refine ret_callc (callc (guard_of (N := N) (bs := bs) 0 1 ?h0 ?h1 hs ?_))
        case h0 => rfl
        case h1 => rfl
        obtain ⟨⟨hg, hb, hc⟩, hN⟩ := stG_ok hk ho hs
        obtain ⟨h1, h2, h3, h4⟩ := isG_iff.mp hg
        refine ⟨_, _, _, _, w, n, rfl, hw, ⟨n0, n1⟩, ?_⟩
        refine ⟨_, _, _, _, rfl, ?_⟩
        have h0 : 0 ≤ w * n := Int.mul_nonneg (by omega) hn.1
        have hg2 : isG (wLo (stG ss s).a w n) (wHi (stG ss s).a (stG ss s).b w n) (stG ss s).c (stG ss s).d = true := by
          refine isG_iff.mpr ⟨?_, ?_, h3, h4⟩
          · unfold wLo mx; split <;> omega
          · unfold wHi mx; split <;> omega
        rw [if_pos hg2]
        exact ⟨by omega, fin h rfl⟩
      · rw [if_neg hn] at h ⊢; exact h
    · rw [if_neg hw] at h ⊢; exact h
  · rw [if_neg hs] at h ⊢; exact h
end Law

set_option linter.all false
/-! lanes as lists -/
namespace Ar
/-- the lanes of a guard, one by one -/
def lanes (a : Int) (n : Nat) (c d : Int) : List Int := ((List.range n).map fun i : Nat => a + (i : Int)).filter fun x => decide (x % c = d)
theorem lanes_succ (a : Int) (n : Nat) (c d : Int) : lanes a (n + 1) c d = lanes a n c d ++ (if (a + n) % c = d then [a + n] else []) := by
  unfold lanes
  rw [List.range_succ, List.map_append, List.filter_append]
  congr 1
  simp only [List.map_cons, List.map_nil, List.filter_cons, List.filter_nil, decide_eq_true_eq]
theorem lanes_eq {a c d : Int} (hc : 0 < c) (h0 : 0 ≤ d) (h1 : d < c) : ∀ n : Nat, lanes a n c d = (List.range (cnt a (a + n) c d).toNat).map fun i : Nat => fst a c d + (i : Int) * c
  | 0 => by
    have h2 := cnt_le (a := a) (b := a + ((0 : Nat) : Int)) (d := d) hc (by omega)
    have : (cnt a (a + ((0 : Nat) : Int)) c d).toNat = 0 := by omega
    rw [this]; rfl
  | n + 1 => by
    have hn := cnt_nonneg (a := a) (b := a + (n : Int)) (d := d) hc (by omega)
    rw [lanes_succ, lanes_eq hc h0 h1 n]
    by_cases hx : (a + (n : Int)) % c = d
    · rw [if_pos hx]
      obtain ⟨k, k0, hk⟩ := lane_ge (a := a) hc h0 h1 hx (by omega)
      have hk' : a + (n : Int) = fst a c d + k * c := by rw [hk, Int.mul_comm]
      have e1 : cnt a (a + (n : Int)) c d = k := cnt_unique hc (by omega) k0 fun j hj => by
        constructor
        · intro h
          have : (j + 1) * c ≤ k * c := Int.mul_le_mul_of_nonneg_right (by omega) (by omega)
          rw [Int.add_mul, Int.one_mul] at this
          omega
        · intro h
          rcases Int.lt_or_le j k with z | z
          · exact z
          · have : k * c ≤ j * c := Int.mul_le_mul_of_nonneg_right z (by omega)
            omega
      have e2 : cnt a (a + ((n + 1 : Nat) : Int)) c d = k + 1 := cnt_unique hc (by omega) (by omega) fun j hj => by
        constructor
        · intro h
          have : j * c ≤ k * c := Int.mul_le_mul_of_nonneg_right (by omega) (by omega)
          omega
        · intro h
          rcases Int.lt_or_le j (k + 1) with z | z
          · exact z
          · have : (k + 1) * c ≤ j * c := Int.mul_le_mul_of_nonneg_right z (by omega)
            rw [Int.add_mul, Int.one_mul] at this
            omega
      rw [e1, e2, show (k + 1).toNat = k.toNat + 1 by omega, List.range_succ, List.map_append]
      congr 1
      rw [List.map_cons, List.map_nil, hk', show ((k.toNat : Nat) : Int) = k by omega]
    · rw [if_neg hx, List.append_nil]
      have e2 : cnt a (a + ((n + 1 : Nat) : Int)) c d = cnt a (a + (n : Int)) c d := cnt_unique hc (by omega) hn fun j hj => by
        rw [cnt_lt hc hj]
        have : fst a c d + j * c ≠ a + n := fun z => hx (by rw [← z]; exact nth_mod hc h0 h1)
        omega
      rw [e2]
theorem mem_lanes {a c d x : Int} {n : Nat} : x ∈ lanes a n c d ↔ a ≤ x ∧ x < a + n ∧ x % c = d := by
  unfold lanes
  rw [List.mem_filter, decide_eq_true_eq, List.mem_map]
  constructor
  · rintro ⟨⟨i, hi, rfl⟩, h⟩
    have := List.mem_range.mp hi
    exact ⟨by omega, by omega, h⟩
  · rintro ⟨h1, h2, h3⟩
    exact ⟨⟨(x - a).toNat, List.mem_range.mpr (by omega), by show a + (((x - a).toNat : Nat) : Int) = x; omega⟩, h3⟩
end Ar

set_option linter.all false
/-! waves of guards -/
namespace Ar
theorem mod_uniq {c x y b : Int} (hc : 0 < c) (h : x % c = y % c) (x0 : b ≤ x) (x1 : x < b + c) (y0 : b ≤ y) (y1 : y < b + c) : x = y := by
  have h1 : (x - y) % c = 0 := by rw [Int.sub_emod, h]; simp
  obtain ⟨k, hk⟩ := Int.dvd_of_emod_eq_zero h1
  rcases Int.lt_trichotomy k 0 with z | z | z
  · have : c * k ≤ c * (-1) := Int.mul_le_mul_of_nonneg_left (by omega) (by omega)
    omega
  · subst z; simp at hk; omega
  · have : c * 1 ≤ c * k := Int.mul_le_mul_of_nonneg_left (by omega) (by omega)
    omega
/-- the last number below b with the remainder d -/
def lst (b c d : Int) : Int := b - 1 - (b - 1 - d) % c
theorem lst_facts {b c d : Int} (hc : 0 < c) (h0 : 0 ≤ d) (h1 : d < c) : lst b c d % c = d ∧ lst b c d < b ∧ b - c ≤ lst b c d := by
  unfold lst
  have p := Int.emod_nonneg (b - 1 - d) (show c ≠ 0 by omega)
  have q := Int.emod_lt_of_pos (b - 1 - d) hc
  refine ⟨?_, by omega, by omega⟩
  have e : (b - 1 - (b - 1 - d) % c) % c = (b - 1 - (b - 1 - d)) % c := by
    rw [Int.sub_emod, Int.emod_emod_of_dvd _ (Int.dvd_refl c), ← Int.sub_emod]
  rw [e, show b - 1 - (b - 1 - d) = d by omega, Int.emod_eq_of_lt h0 h1]
theorem cnt_zero {a b c d : Int} (hc : 0 < c) (hab : a ≤ b) : cnt a b c d = 0 ↔ b ≤ fst a c d := by
  have h := cnt_lt (a := a) (b := b) (d := d) hc (k := 0) (by omega)
  have h2 := cnt_nonneg (d := d) hc hab
  rw [Int.zero_mul, Int.add_zero] at h
  omega
theorem cnt_last {a b c d : Int} (hc : 0 < c) (h0 : 0 ≤ d) (h1 : d < c) (hab : a ≤ b) (h : 0 < cnt a b c d) : fst a c d + (cnt a b c d - 1) * c = lst b c d := by
  obtain ⟨l1, l2, l3⟩ := lst_facts (b := b) hc h0 h1
  have k1 := (cnt_lt (a := a) (b := b) (d := d) hc (k := cnt a b c d - 1) (by omega)).mp (by omega)
  have k2 : ¬ (fst a c d + cnt a b c d * c < b) := fun z => by
    have := (cnt_lt (a := a) (b := b) (d := d) hc (k := cnt a b c d) (by omega)).mpr z
    omega
  have e : (cnt a b c d - 1) * c = cnt a b c d * c - c := by rw [Int.sub_mul, Int.one_mul]
  have m : (fst a c d + (cnt a b c d - 1) * c) % c = d := nth_mod hc h0 h1
  exact mod_uniq (b := b - c) hc (by rw [m, l1]) (by omega) (by omega) l3 (by omega)
theorem due_iff {a b c d : Int} (hc : 0 < c) (h0 : 0 ≤ d) (h1 : d < c) (hab : a ≤ b) : lst b c d < fst a c d ↔ cnt a b c d = 0 := by
  obtain ⟨l1, l2, l3⟩ := lst_facts (b := b) hc h0 h1
  have n := cnt_nonneg (d := d) hc hab
  constructor
  · intro h
    rcases Int.lt_or_le 0 (cnt a b c d) with z | z
    · have := cnt_last hc h0 h1 hab z
      have : 0 ≤ (cnt a b c d - 1) * c := Int.mul_nonneg (by omega) (by omega)
      omega
    · omega
  · intro h
    have := (cnt_zero hc hab).mp h
    omega
def wv (a b c d w : Int) : Int := if cnt a b c d = 0 ∨ w ≤ c then cnt a b c d else (fst a c d + (cnt a b c d - 1) * c) / w - fst a c d / w + 1
theorem wv_due {a b c d w : Int} (hc : 0 < c) (h0 : 0 ≤ d) (h1 : d < c) (hab : a ≤ b) (hw : 0 < w) :
    wv a b c d w = if lst b c d < fst a c d then 0 else if c ≤ w then lst b c d / w - fst a c d / w + 1 else (lst b c d - fst a c d) / c + 1 := by
  unfold wv
  by_cases h : cnt a b c d = 0
  · rw [if_pos (.inl h), if_pos ((due_iff hc h0 h1 hab).mpr h)]; exact h
  have n := cnt_nonneg (d := d) hc hab
  rw [if_neg fun z => h ((due_iff hc h0 h1 hab).mp z)]
  have hl := cnt_last hc h0 h1 hab (by omega)
  by_cases h2 : w ≤ c
  · rw [if_pos (.inr h2)]
    by_cases h3 : c ≤ w
    · have : c = w := by omega
      subst this
      rw [if_pos (by omega), ← hl, Int.add_mul_ediv_right _ _ (by omega)]
      omega
    · rw [if_neg h3, ← hl, show fst a c d + (cnt a b c d - 1) * c - fst a c d = (cnt a b c d - 1) * c by omega, Int.mul_ediv_cancel _ (by omega)]
      omega
  · rw [if_neg (by omega), if_pos (by omega), hl]
theorem fst_cut {a m b c d : Int} (hc : 0 < c) (h0 : 0 ≤ d) (h1 : d < c) (ham : a ≤ m) (h : cnt a m c d = 0) : fst m c d = fst a c d := by
  have z := (cnt_zero hc ham).mp h
  have f1 := fst_ge (a := a) (d := d) hc
  have f2 := fst_lt (a := a) (d := d) hc
  have g1 := fst_ge (a := m) (d := d) hc
  have g2 := fst_lt (a := m) (d := d) hc
  exact mod_uniq (b := m) hc (by rw [fst_mod hc h0 h1, fst_mod hc h0 h1]) g1 g2 z (by omega)
theorem lst_cut {m b c d : Int} (hc : 0 < c) (h0 : 0 ≤ d) (h1 : d < c) (hmb : m ≤ b) (h : cnt m b c d = 0) : lst m c d = lst b c d := by
  have z := (cnt_zero hc hmb).mp h
  obtain ⟨l1, l2, l3⟩ := lst_facts (b := b) hc h0 h1
  obtain ⟨k1, k2, k3⟩ := lst_facts (b := m) hc h0 h1
  have g2 := fst_lt (a := m) (d := d) hc
  have g3 := fst_mod (a := m) hc h0 h1
  -- the first from m on is behind b, and so the last below b is below m
  have hb : lst b c d < m := by
    rcases Int.lt_or_le (lst b c d) m with y | y
    · exact y
    · have := mod_uniq (b := m) (x := lst b c d) (y := fst m c d) hc (by rw [l1, g3]) y (by omega) (fst_ge hc) g2
      omega
  exact mod_uniq (b := m - c) hc (by rw [k1, l1]) k3 (by omega) (by omega) (by omega)
theorem fst_next {m c d : Int} (hc : 0 < c) (h0 : 0 ≤ d) (h1 : d < c) : fst m c d = lst m c d + c := by
  obtain ⟨k1, k2, k3⟩ := lst_facts (b := m) hc h0 h1
  have g1 := fst_ge (a := m) (d := d) hc
  have g2 := fst_lt (a := m) (d := d) hc
  exact mod_uniq (b := m) hc (by rw [fst_mod hc h0 h1, Int.add_emod, Int.emod_self, Int.add_zero, Int.emod_emod_of_dvd _ (Int.dvd_refl c), k1]) g1 g2 (by omega) (by omega)
theorem wv_cut {a m b c d w : Int} (hc : 0 < c) (h0 : 0 ≤ d) (h1 : d < c) (ham : a ≤ m) (hmb : m ≤ b) (hw : 0 < w) (hm : m % w = 0) : wv a m c d w + wv m b c d w = wv a b c d w := by
  have hs := cnt_cut hc h0 h1 ham hmb
  have n1 := cnt_nonneg (d := d) hc ham
  have n2 := cnt_nonneg (d := d) hc hmb
  unfold wv
  by_cases hwc : w ≤ c
  · rw [if_pos (.inr hwc), if_pos (.inr hwc), if_pos (.inr hwc)]; exact hs
  by_cases z1 : cnt a m c d = 0
  · rw [if_pos (.inl z1), z1, Int.zero_add]
    rw [z1, Int.zero_add] at hs
    rw [hs, fst_cut (b := b) hc h0 h1 ham z1]
  by_cases z2 : cnt m b c d = 0
  · rw [if_pos (show cnt m b c d = 0 ∨ w ≤ c from .inl z2), z2, Int.add_zero]
    rw [z2, Int.add_zero] at hs
    rw [hs]
  rw [if_neg (by omega), if_neg (by omega), if_neg (by omega)]
  rw [cnt_last hc h0 h1 ham (by omega), cnt_last hc h0 h1 hmb (by omega), cnt_last hc h0 h1 (by omega) (by omega)]
  obtain ⟨k1, k2, k3⟩ := lst_facts (b := m) hc h0 h1
  have e := fst_next (m := m) hc h0 h1
  have g1 := fst_ge (a := m) (d := d) hc
  obtain ⟨j, hj⟩ := Int.dvd_of_emod_eq_zero hm
  have q1 : lst m c d / w = j - 1 := by
    have : lst m c d = (lst m c d - w * (j - 1)) + w * (j - 1) := by omega
    rw [this, Int.add_mul_ediv_left _ _ (by omega)]
    have em : w * (j - 1) = w * j - w := by rw [Int.mul_sub, Int.mul_one]
    rw [Int.ediv_eq_zero_of_lt (by omega) (by omega)]; omega
  have q2 : fst m c d / w = j := by
    have : fst m c d = (fst m c d - w * j) + w * j := by omega
    rw [this, Int.add_mul_ediv_left _ _ (by omega), Int.ediv_eq_zero_of_lt (by omega) (by omega)]; omega
  omega
/-- the lanes of a window, counted -/
theorem lanes_cnt {a b c d : Int} (hc : 0 < c) (h0 : 0 ≤ d) (h1 : d < c) (hab : a ≤ b) : ((lanes a (b - a).toNat c d).length : Int) = cnt a b c d := by
  rw [lanes_eq hc h0 h1, List.length_map, List.length_range]
  have : a + ((b - a).toNat : Int) = b := by omega
  rw [this]
  have := cnt_nonneg (d := d) hc hab
  omega
end Ar

set_option linter.all false
namespace Law
open PySem L2 DL Ar
theorem mx_comm (i j : Int) : mx i j = mx j i := by unfold mx; split <;> split <;> omega
theorem win_cnt {a b c d w n : Int} (hc : 0 < c) (h0 : 0 ≤ d) (h1 : d < c) : cnt (wLo a w n) (wHi a b w n) c d = ((lanes (mx a (n * w)) (mn b (n * w + w) - mx a (n * w)).toNat c d).length : Int) := by
  unfold wHi wLo
  rw [mx_comm (w * n) a, Int.mul_comm w n]
  by_cases z : mx a (n * w) ≤ mn b (n * w + w)
  · have e : mx (mx a (n * w)) (mn (n * w + w) b) = mn b (n * w + w) := by
      generalize mx a (n * w) = x at z ⊢
      unfold mx
      unfold mn at z ⊢
      split <;> split <;> split at z <;> omega
    rw [e, lanes_cnt hc h0 h1 z]
  · have e : mx (mx a (n * w)) (mn (n * w + w) b) = mx a (n * w) := by
      generalize mx a (n * w) = x at z ⊢
      unfold mx
      unfold mn at z ⊢
      split <;> split at z <;> first | omega | (split <;> omega)
    rw [e, show (mn b (n * w + w) - mx a (n * w)).toNat = 0 by omega]
    have := cnt_le (a := mx a (n * w)) (b := mx a (n * w)) (d := d) hc (by omega)
    have := cnt_nonneg (a := mx a (n * w)) (b := mx a (n * w)) (d := d) hc (by omega)
    show _ = ((lanes _ 0 c d).length : Int)
    rw [show lanes (mx a (n * w)) 0 c d = [] from rfl]
    simp; omega
end Law

set_option linter.all false
set_option maxRecDepth 100000
set_option maxHeartbeats 1000000
/-! the waves of a guard, one by one -/
namespace Law
open PySem L2 DL Ar
def bw (a b w : Int) (n : Nat) : Int := if w * n ≤ a then a else if b ≤ w * n then b else w * n
def ci (a b c d w : Int) (n : Nat) : Int := cnt (wLo a w n) (wHi a b w n) c d
theorem cnt_self {x c d : Int} (hc : 0 < c) : cnt x x c d = 0 := by
  have := cnt_nonneg (a := x) (b := x) (d := d) hc (by omega)
  have := cnt_le (a := x) (b := x) (d := d) hc (by omega)
  omega
theorem w_succ (w : Int) (n : Nat) : w * ((n + 1 : Nat) : Int) = w * n + w := by
  rw [Int.natCast_add, Int.mul_add]; simp
theorem bw_facts {a b w : Int} {n : Nat} (hab : a ≤ b) (hw : 0 < w) : a ≤ bw a b w n ∧ bw a b w n ≤ bw a b w (n + 1) ∧ bw a b w n ≤ b := by
  unfold bw
  rw [w_succ]
  generalize w * (n : Int) = m
  refine ⟨?_, ?_, ?_⟩ <;> (repeat' split) <;> omega
theorem ci_eq {a b c d w : Int} {n : Nat} (hc : 0 < c) (hab : a ≤ b) (hw : 0 < w) : ci a b c d w n = cnt (bw a b w n) (bw a b w (n + 1)) c d := by
  unfold ci wHi wLo bw
  rw [w_succ]
  generalize w * (n : Int) = m
  by_cases z : b ≤ m
  · have e1 : mx (mx m a) (mn (m + w) b) = mx m a := by
      unfold mx mn; repeat' split
      all_goals omega
    rw [e1, cnt_self hc]
    by_cases z2 : m ≤ a
    · rw [if_pos z2]
      by_cases z3 : m + w ≤ a
      · rw [if_pos z3, cnt_self hc]
      · rw [if_neg z3, if_pos (by omega), show b = a by omega, cnt_self hc]
    · rw [if_neg z2, if_pos z, if_neg (by omega), if_pos (by omega), cnt_self hc]
  · have e1 : mx m a = if m ≤ a then a else if b ≤ m then b else m := by
      unfold mx; repeat' split
      all_goals omega
    have e2 : mx (mx m a) (mn (m + w) b) = if m + w ≤ a then a else if b ≤ m + w then b else m + w := by
      unfold mx mn; repeat' split
      all_goals omega
    rw [e2, ← e1]
theorem bw_in {a b w : Int} {n : Nat} (hab : a ≤ b) (hw : 0 < w) (h : bw a b w n < bw a b w (n + 1)) : w * n ≤ bw a b w n ∧ bw a b w (n + 1) ≤ w * n + w := by
  unfold bw at h ⊢
  rw [w_succ] at h ⊢
  generalize w * (n : Int) = m at h ⊢
  constructor <;> (repeat' split at h) <;> (repeat' split) <;> omega
theorem div_in {x w n : Int} (hw : 0 < w) (h1 : w * n ≤ x) (h2 : x < w * n + w) : x / w = n := by
  have e : x = (x - w * n) + w * n := by omega
  rw [e, Int.add_mul_ediv_left _ _ (by omega), Int.ediv_eq_zero_of_lt (by omega) (by omega)]; omega
theorem one_win {x y c d w n : Int} (hc : 0 < c) (h0 : 0 ≤ d) (h1 : d < c) (hw : 0 < w) (hxy : x ≤ y) (h : x < y → w * n ≤ x ∧ y ≤ w * n + w) : wwl x y c d w = if cnt x y c d ≠ 0 then 1 else 0 := by
  unfold wwl
  have n0 := cnt_nonneg (d := d) hc hxy
  by_cases z : cnt x y c d = 0
  · rw [if_pos (.inl z), if_neg (by omega)]; exact z
  rw [if_pos z]
  have hl := (cnt_lt (a := x) (b := y) (d := d) hc (k := cnt x y c d - 1) (by omega)).mp (by omega)
  have f := fst_ge (a := x) (d := d) hc
  have p : 0 ≤ (cnt x y c d - 1) * c := Int.mul_nonneg (by omega) (by omega)
  obtain ⟨h2, h3⟩ := h (by omega)
  by_cases z2 : w ≤ c
  · rw [if_pos (.inr z2)]
    rcases Int.lt_or_le 1 (cnt x y c d) with k | k
    · have : 1 * c ≤ (cnt x y c d - 1) * c := Int.mul_le_mul_of_nonneg_right (by omega) (by omega)
      omega
    · omega
  · rw [if_neg (by omega), div_in (n := n) hw (by omega) (by omega), div_in (n := n) hw (by omega) (by omega)]; omega
theorem wwl_zero {x y c d w : Int} (h : cnt x y c d = 0) : wwl x y c d w = 0 := by unfold wwl; rw [if_pos (.inl h)]; exact h
/-- so many of the first n waves have a lane -/
def ne (a b c d w : Int) : Nat → Int
  | 0 => 0
  | n + 1 => ne a b c d w n + if ci a b c d w n ≠ 0 then 1 else 0
theorem ne_eq {a b c d w : Int} (hc : 0 < c) (h0 : 0 ≤ d) (h1 : d < c) (ha : 0 ≤ a) (hab : a ≤ b) (hw : 0 < w) : ∀ n, ne a b c d w n = wwl a (bw a b w n) c d w
  | 0 => by
    unfold ne bw
    rw [show w * ((0 : Nat) : Int) = 0 by simp, if_pos ha, wwl_zero (cnt_self hc)]
  | n + 1 => by
    unfold ne
    rw [ne_eq hc h0 h1 ha hab hw n, ci_eq hc hab hw]
    obtain ⟨f1, f2, f3⟩ := bw_facts (n := n) hab hw
    rw [← one_win (n := n) hc h0 h1 hw f2 (bw_in hab hw)]
    have key : bw a b w n = a ∨ (bw a b w n = w * n) ∨ bw a b w n = bw a b w (n + 1) := by
      unfold bw
      rw [w_succ]
      generalize w * (n : Int) = m
      (repeat' split) <;> omega
    rcases key with k | k | k
    · rw [k, wwl_zero (cnt_self hc), Int.zero_add]
    · exact wv_cut hc h0 h1 f1 f2 hw (by rw [k]; exact Int.mul_emod_right _ _)
    · rw [← k, wwl_zero (cnt_self hc), Int.add_zero]
theorem bw_end {a b w : Int} {n : Nat} (hab : a ≤ b) (h : b ≤ w * n) : bw a b w n = b := by
  unfold bw
  (repeat' split) <;> omega
theorem ne_all {a b c d w : Int} {n : Nat} (hc : 0 < c) (h0 : 0 ≤ d) (h1 : d < c) (ha : 0 ≤ a) (hab : a ≤ b) (hw : 0 < w) (h : b ≤ w * n) : ne a b c d w n = wwl a b c d w := by
  rw [ne_eq hc h0 h1 ha hab hw, bw_end hab h]
/-- so many of the first n waves have nothing but lanes -/
def fu (N a b c d w : Int) : Nat → Int
  | 0 => 0
  | n + 1 => fu N a b c d w n + if ci a b c d w n = mn w (N - w * n) then 1 else 0
theorem ci_le {a b c d w : Int} {n : Nat} (hc : 0 < c) (hab : a ≤ b) (hw : 0 < w) : 0 ≤ ci a b c d w n ∧ ci a b c d w n ≤ bw a b w (n + 1) - bw a b w n ∧ (ci a b c d w n - 1) * c < bw a b w (n + 1) - bw a b w n := by
  rw [ci_eq hc hab hw]
  obtain ⟨f1, f2, f3⟩ := bw_facts (n := n) hab hw
  have n0 := cnt_nonneg (d := d) hc f2
  refine ⟨n0, cnt_le hc f2, ?_⟩
  rcases Int.lt_or_le 0 (cnt (bw a b w n) (bw a b w (n + 1)) c d) with z | z
  · have := (cnt_lt (a := bw a b w n) (b := bw a b w (n + 1)) (d := d) hc (k := cnt (bw a b w n) (bw a b w (n + 1)) c d - 1) (by omega)).mp (by omega)
    have := fst_ge (a := bw a b w n) (d := d) hc
    omega
  · have e : cnt (bw a b w n) (bw a b w (n + 1)) c d = 0 := by omega
    rw [e]
    have : (0 - 1) * c = - c := by omega
    omega
theorem bw_wid {N a b w : Int} {n : Nat} (ha : 0 ≤ a) (hab : a ≤ b) (hb : b ≤ N) (hw : 0 < w) (h : w * n < N) : bw a b w (n + 1) - bw a b w n ≤ mn w (N - w * n) := by
  unfold bw mn
  rw [w_succ]
  generalize w * (n : Int) = m at h ⊢
  (repeat' split) <;> omega
theorem fu_one {N a b c d : Int} (hc : 0 < c) (h0 : 0 ≤ d) (h1 : d < c) (ha : 0 ≤ a) (hab : a ≤ b) (hb : b ≤ N) : ∀ n : Nat, (n : Int) ≤ N → fu N a b c d 1 n = cnt a (bw a b 1 n) c d
  | 0, _ => by
    unfold fu bw
    rw [show (1 : Int) * ((0 : Nat) : Int) = 0 by simp, if_pos ha, cnt_self hc]
  | n + 1, hn => by
    unfold fu
    rw [fu_one hc h0 h1 ha hab hb n (by omega)]
    obtain ⟨f1, f2, f3⟩ := bw_facts (n := n) (w := 1) hab (by decide)
    obtain ⟨c0, c1, c2⟩ := ci_le (n := n) (w := 1) (d := d) hc hab (by decide)
    have wd := bw_wid (n := n) (w := 1) ha hab hb (by decide) (by omega)
    have e := cnt_cut (a := a) (m := bw a b 1 n) (b := bw a b 1 (n + 1)) (c := c) (d := d) hc h0 h1 f1 f2
    rw [← ci_eq hc hab (by decide)] at e
    have m1 : mn 1 (N - 1 * (n : Int)) = 1 := by unfold mn; split <;> omega
    rw [m1] at wd ⊢
    split <;> omega
end Law

set_option linter.all false
set_option maxRecDepth 100000
set_option maxHeartbeats 1000000
namespace Law
open PySem L2 DL Ar
theorem ci_lane {a b c d w : Int} {n : Nat} (hc : 0 < c) (h0 : 0 ≤ d) (h1 : d < c) (hab : a ≤ b) (hw : 0 < w) {x : Int} (h : lane a b c d x) (h2 : w * n ≤ x) (h3 : x < w * n + w) : 0 < ci a b c d w n := by
  have e := win_cnt (a := a) (b := b) (w := w) (n := n) hc h0 h1
  have m : x ∈ lanes (mx a (n * w)) (mn b (n * w + w) - mx a (n * w)).toNat c d := by
    rw [mem_lanes, Int.mul_comm (n : Int) w]
    refine ⟨?_, ?_, h.2.2⟩
    · unfold mx; split <;> (have := h.1; omega)
    · have g1 : mx a (w * n) ≤ x := by unfold mx; split <;> (have := h.1; omega)
      have g2 : x < mn b (w * n + w) := by unfold mn; split <;> (have := h.2.1; omega)
      omega
  have := List.length_pos_of_mem m
  unfold ci
  omega
theorem ci_has {a b c d w : Int} {n : Nat} (hc : 0 < c) (h0 : 0 ≤ d) (h1 : d < c) (hab : a ≤ b) (hw : 0 < w) (h : 0 < ci a b c d w n) : ∃ x, lane a b c d x ∧ w * n ≤ x ∧ x < w * n + w := by
  have e := win_cnt (a := a) (b := b) (w := w) (n := n) hc h0 h1
  unfold ci at h
  have hl : 0 < (lanes (mx a (n * w)) (mn b (n * w + w) - mx a (n * w)).toNat c d).length := by omega
  obtain ⟨x, hx⟩ := List.exists_mem_of_length_pos hl
  rw [mem_lanes, Int.mul_comm (n : Int) w] at hx
  obtain ⟨x1, x2, x3⟩ := hx
  have g1 : a ≤ mx a (w * n) ∧ w * n ≤ mx a (w * n) := by unfold mx; split <;> omega
  have g2 : mn b (w * n + w) ≤ b ∧ mn b (w * n + w) ≤ w * n + w := by unfold mn; split <;> omega
  exact ⟨x, ⟨by omega, by omega, x3⟩, by omega, by omega⟩
theorem fu_low {N a b c d w : Int} (hc : 1 < c) (ha : 0 ≤ a) (hab : a ≤ b) (hb : b ≤ N) (hw : 1 < w) : ∀ n : Nat, w * n < N → fu N a b c d w n = 0
  | 0, _ => rfl
  | n + 1, hn => by
    unfold fu
    rw [w_succ] at hn
    rw [fu_low hc ha hab hb hw n (by omega), Int.zero_add, if_neg]
    obtain ⟨c0, c1, c2⟩ := ci_le (n := n) (d := d) (show 0 < c by omega) hab (show 0 < w by omega)
    have wd := bw_wid (n := n) ha hab hb (show 0 < w by omega) (by omega)
    have e : mn w (N - w * n) = w := by unfold mn; split <;> omega
    rw [e] at wd ⊢
    intro z
    have : (ci a b c d w n - 1) * 2 ≤ (ci a b c d w n - 1) * c := Int.mul_le_mul_of_nonneg_left (by omega) (by omega)
    omega
theorem fu_step {N a b c d w : Int} {n : Nat} (hc : 1 < c) (h0 : 0 ≤ d) (h1 : d < c) (ha : 0 ≤ a) (hab : a ≤ b) (hb : b ≤ N) (hw : 1 < w) (h2 : w * n < N) (h3 : N ≤ w * n + w) : fu N a b c d w (n + 1) = if (N - 1) % w = 0 ∧ lane a b c d (N - 1) then 1 else 0 := by
  unfold fu
  rw [fu_low hc ha hab hb hw n h2, Int.zero_add]
  obtain ⟨c0, c1, c2⟩ := ci_le (n := n) (d := d) (show 0 < c by omega) hab (show 0 < w by omega)
  have wd := bw_wid (n := n) ha hab hb (show 0 < w by omega) h2
  have e : mn w (N - w * n) = N - w * n := by unfold mn; split <;> omega
  rw [e] at wd ⊢
  by_cases z : (N - 1) % w = 0 ∧ lane a b c d (N - 1)
  · rw [if_pos z]
    have m : N - 1 = w * n := by
      have p := Int.emod_add_mul_ediv (N - 1) w
      have q : (N - 1) / w = n := div_in (by omega) (by omega) (by omega)
      rw [q] at p; omega
    have := ci_lane (n := n) (show 0 < c by omega) h0 h1 hab (show 0 < w by omega) z.2 (by omega) (by omega)
    rw [if_pos (by omega)]
  · rw [if_neg z, if_neg]
    intro y
    have : (ci a b c d w n - 1) * 2 ≤ (ci a b c d w n - 1) * c := Int.mul_le_mul_of_nonneg_left (by omega) (by omega)
    have m : N - 1 = w * n := by omega
    obtain ⟨x, hx, x1, x2⟩ := ci_has (n := n) (show 0 < c by omega) h0 h1 hab (show 0 < w by omega) (show 0 < ci a b c d w n by omega)
    have : x = N - 1 := by have := hx.2.1; omega
    subst this
    exact z ⟨by rw [m]; exact Int.mul_emod_right _ _, hx⟩
theorem cnt_all {x y : Int} (h : x ≤ y) : cnt x y 1 0 = y - x := by
  unfold cnt fst
  rw [Int.emod_one, Int.ediv_one]; omega
theorem ci_all {N a b w : Int} {n : Nat} (ha : 0 ≤ a) (hab : a ≤ b) (hb : b ≤ N) (hw : 0 < w) (h : w * n < N) : ci a b 1 0 w n = mn w (N - w * n) ↔ a ≤ w * n ∧ (w * n + w ≤ b ∨ b = N) := by
  rw [ci_eq (by decide) hab hw, cnt_all (bw_facts hab hw).2.1]
  unfold bw mn
  rw [w_succ]
  generalize w * (n : Int) = m at h ⊢
  (repeat' split) <;> omega
theorem ceil_le {a w : Int} {n : Nat} (hw : 0 < w) : (a + w - 1) / w ≤ n ↔ a ≤ w * n := by
  constructor
  · intro h
    have := Int.lt_ediv_add_one_mul_self (a + w - 1) hw
    have h2 : ((a + w - 1) / w + 1) * w ≤ ((n : Int) + 1) * w := Int.mul_le_mul_of_nonneg_right (by omega) (by omega)
    rw [Int.add_mul (n : Int), Int.one_mul, Int.mul_comm (n : Int)] at h2
    omega
  · intro h
    have : (a + w - 1) / w < (n : Int) + 1 := Int.ediv_lt_of_lt_mul hw (by rw [Int.add_mul, Int.one_mul, Int.mul_comm]; omega)
    omega
theorem floor_gt {b w : Int} {n : Nat} (hw : 0 < w) : (n : Int) < b / w ↔ w * n + w ≤ b := by
  rw [Int.lt_iff_add_one_le, Int.le_ediv_iff_mul_le hw, Int.add_mul, Int.one_mul, Int.mul_comm]
theorem fu_all {N a b w : Int} (ha : 0 ≤ a) (hab : a ≤ b) (hb : b ≤ N) (hw : 0 < w) : ∀ n : Nat, (n : Int) ≤ (N + w - 1) / w → fu N a b 1 0 w n = mx 0 (mn (n : Int) (if b = N then (b + w - 1) / w else b / w) - (a + w - 1) / w)
  | 0, _ => by
    have h1 : 0 ≤ (a + w - 1) / w := Int.ediv_nonneg (by omega) (by omega)
    have h2 : 0 ≤ (b + w - 1) / w := Int.ediv_nonneg (by omega) (by omega)
    have h3 : 0 ≤ b / w := Int.ediv_nonneg (by omega) (by omega)
    unfold fu mx mn
    (repeat' split) <;> omega
  | n + 1, hn => by
    unfold fu
    rw [fu_all ha hab hb hw n (by omega)]
    have hlt : w * n < N := by
      rcases Int.lt_or_le (w * n) N with z | z
      · exact z
      · have := (ceil_le (a := N) (n := n) hw).mpr z
        omega
    have iff := ci_all (n := n) ha hab hb hw hlt
    have e1 := ceil_le (a := a) (n := n) hw
    have e2 := floor_gt (b := b) (n := n) hw
    have l0 : 0 ≤ (a + w - 1) / w := Int.ediv_nonneg (by omega) (by omega)
    by_cases hbN : b = N
    · subst hbN
      rw [if_pos rfl]
      by_cases z : a ≤ w * n
      · rw [if_pos (iff.mpr ⟨z, .inr rfl⟩)]
        have := e1.mpr z
        unfold mx mn
        (repeat' split) <;> omega
      · rw [if_neg (fun y => z (iff.mp y).1)]
        have : ¬ (a + w - 1) / w ≤ n := fun y => z (e1.mp y)
        unfold mx mn
        (repeat' split) <;> omega
    · rw [if_neg hbN]
      by_cases z : a ≤ w * n ∧ w * n + w ≤ b
      · rw [if_pos (iff.mpr ⟨z.1, .inl z.2⟩)]
        have := e1.mpr z.1
        have := e2.mpr z.2
        unfold mx mn
        (repeat' split) <;> omega
      · rw [if_neg (fun y => z ⟨(iff.mp y).1, (iff.mp y).2.resolve_right hbN⟩)]
        have : ¬ ((a + w - 1) / w ≤ n ∧ (n : Int) < b / w) := fun y => z ⟨e1.mp y.1, e2.mp y.2⟩
        unfold mx mn
        (repeat' split) <;> omega
theorem fu_eq {N a b c d w : Int} {n : Nat} (hg : isG a b c d = true) (hN : 1 ≤ N) (hb : b ≤ N) (hw : 0 < w) (hn : (n : Int) = (N + w - 1) / w) : fu N a b c d w n = fw N a b c d w := by
  obtain ⟨ha, hab, h0, h1⟩ := isG_iff.mp hg
  have up : N ≤ w * n := (ceil_le (n := n) hw).mp (by omega)
  have n1 : 0 < n := by
    rcases Nat.eq_zero_or_pos n with z | z
    · subst z; simp at up; omega
    · exact z
  unfold fw
  by_cases z1 : w = 1
  · subst z1
    rw [if_pos rfl]
    have e : (n : Int) = N := by rw [hn, Int.ediv_one]; omega
    rw [fu_one (by omega) h0 h1 ha hab hb n (by omega), bw_end hab (by omega)]
  rw [if_neg z1]
  obtain ⟨m, rfl⟩ : ∃ m, n = m + 1 := ⟨n - 1, by omega⟩
  by_cases z2 : c > 1
  · rw [if_pos z2]
    rw [w_succ] at up
    refine fu_step z2 h0 h1 ha hab hb (by omega) ?_ up
    rcases Int.lt_or_le (w * m) N with z | z
    · exact z
    · have := (ceil_le (a := N) (n := m) hw).mpr z
      omega
  · rw [if_neg z2]
    obtain rfl : c = 1 := by omega
    obtain rfl : d = 0 := by omega
    rw [fu_all ha hab hb hw _ (by omega)]
    congr 1
    rw [hn]
    have : b / w ≤ (N + w - 1) / w := Int.ediv_le_ediv hw (by omega)
    have : (b + w - 1) / w ≤ (N + w - 1) / w := Int.ediv_le_ediv hw (by omega)
    unfold mn
    (repeat' split) <;> omega
/-- the lanes of one wave, picked -/
theorem row_eq {a c d w i : Int} (hw : 0 < w) : ∀ n : Nat, (lanes a n c d).filter (fun x => decide (x / w = i)) = lanes (mx a (i * w)) (mn (a + n) (i * w + w) - mx a (i * w)).toNat c d
  | 0 => by
    have : (mn (a + (0 : Nat)) (i * w + w) - mx a (i * w)).toNat = 0 := by unfold mn mx; (repeat' split) <;> omega
    rw [this]; rfl
  | n + 1 => by
    rw [lanes_succ, List.filter_append, row_eq hw n]
    have split_win : (a + n) / w = i ↔ i * w ≤ a + n ∧ a + n < i * w + w := by
      constructor
      · intro h
        subst h
        have p := Int.emod_add_mul_ediv (a + n) w
        have q := Int.emod_nonneg (a + n) (show w ≠ 0 by omega)
        have r := Int.emod_lt_of_pos (a + n) hw
        rw [Int.mul_comm] at p
        omega
      · intro h
        rw [Int.mul_comm] at h
        exact div_in hw h.1 h.2
    by_cases z : (a + n) / w = i
    · have hz := split_win.mp z
      have e1 : (mn (a + (n + 1 : Nat)) (i * w + w) - mx a (i * w)).toNat = (mn (a + n) (i * w + w) - mx a (i * w)).toNat + 1 := by
        unfold mn mx; (repeat' split) <;> omega
      rw [e1, lanes_succ]
      have e2 : mx a (i * w) + ((mn (a + n) (i * w + w) - mx a (i * w)).toNat : Int) = a + n := by
        unfold mn mx; (repeat' split) <;> omega
      rw [e2]
      congr 1
      by_cases y : (a + n) % c = d
      · rw [if_pos y]; simp [z]
      · rw [if_neg y]; rfl
    · have hz : ¬ (i * w ≤ a + n ∧ a + n < i * w + w) := fun y => z (split_win.mpr y)
      have e1 : (mn (a + (n + 1 : Nat)) (i * w + w) - mx a (i * w)).toNat = (mn (a + n) (i * w + w) - mx a (i * w)).toNat := by
        unfold mn mx; (repeat' split) <;> omega
      rw [e1]
      by_cases y : (a + n) % c = d
      · rw [if_pos y]; simp [z]
      · rw [if_neg y]; simp
theorem row_len {a b c d w : Int} {i : Nat} (hc : 0 < c) (h0 : 0 ≤ d) (h1 : d < c) (hab : a ≤ b) (hw : 0 < w) : (((lanes a (b - a).toNat c d).filter (fun x => decide (x / w = (i : Int)))).length : Int) = ci a b c d w i := by
  rw [row_eq hw, show a + ((b - a).toNat : Int) = b by omega]
  exact (win_cnt hc h0 h1).symm
end Law

set_option linter.all false
set_option maxRecDepth 10000
/-! k43: lines of waves -/
namespace Ar
/-! sums -/
def sm (F : Nat → Int) : Nat → Int
  | 0 => 0
  | n + 1 => sm F n + F n
theorem sm_congr {F G : Nat → Int} : ∀ {n : Nat}, (∀ k, k < n → F k = G k) → sm F n = sm G n
  | 0, _ => rfl
  | n + 1, h => by
    show sm F n + F n = sm G n + G n
    rw [sm_congr fun k hk => h k (by omega), h n (by omega)]
theorem sm_add (F : Nat → Int) (p : Nat) : ∀ q, sm F (p + q) = sm F p + sm (fun k => F (p + k)) q
  | 0 => by show sm F p = sm F p + 0; omega
  | q + 1 => by
    show sm F (p + q) + F (p + q) = sm F p + (sm (fun k => F (p + k)) q + F (p + q))
    rw [sm_add F p q]; omega
theorem sm_le {F G : Nat → Int} : ∀ {n : Nat}, (∀ k, k < n → F k ≤ G k) → sm F n ≤ sm G n
  | 0, _ => Int.le_refl 0
  | n + 1, h => by
    have h1 := sm_le (n := n) fun k hk => h k (by omega)
    have h2 := h n (by omega)
    show sm F n + F n ≤ sm G n + G n
    omega
theorem sm_const (x : Int) : ∀ n : Nat, sm (fun _ => x) n = x * n
  | 0 => by simp [sm]
  | n + 1 => by
    show sm (fun _ => x) n + x = _
    rw [sm_const x n, Int.natCast_add, Int.mul_add]; simp
theorem sm_plus (F G : Nat → Int) : ∀ n, sm (fun k => F k + G k) n = sm F n + sm G n
  | 0 => rfl
  | n + 1 => by
    show sm (fun k => F k + G k) n + (F n + G n) = sm F n + F n + (sm G n + G n)
    rw [sm_plus F G n]; omega
theorem sm_mul (x : Int) (F : Nat → Int) : ∀ n, sm (fun k => x * F k) n = x * sm F n
  | 0 => by simp [sm]
  | n + 1 => by
    show sm (fun k => x * F k) n + x * F n = x * (sm F n + F n)
    rw [sm_mul x F n, Int.mul_add]
theorem sm_rev (F : Nat → Int) : ∀ n, sm (fun k => F (n - 1 - k)) n = sm F n
  | 0 => rfl
  | n + 1 => by
    have h := sm_add (fun k => F (n + 1 - 1 - k)) 1 n
    rw [Nat.add_comm 1 n] at h
    rw [h]
    have e : sm (fun k => F (n + 1 - 1 - (1 + k))) n = sm (fun k => F (n - 1 - k)) n := sm_congr fun k hk => by congr 1; omega
    rw [e, sm_rev F n]
    show (0 + F (n + 1 - 1 - 0)) + sm F n = sm F n + F n
    simp; omega
theorem sm_id : ∀ n : Nat, 2 * sm (fun k => (k : Int)) n = (n : Int) * ((n : Int) - 1)
  | 0 => by simp [sm]
  | n + 1 => by
    show 2 * (sm (fun k => (k : Int)) n + (n : Int)) = _
    rw [Int.mul_add, sm_id n]
    rw [show (((n + 1 : Nat) : Int)) = (n : Int) + 1 by omega, show (n : Int) + 1 - 1 = (n : Int) by omega, Int.mul_sub, Int.add_mul]
    omega
theorem sm_nonneg {F : Nat → Int} {n : Nat} (h : ∀ k, k < n → 0 ≤ F k) : 0 ≤ sm F n := by
  have := sm_le (F := fun _ => 0) (G := F) (n := n) h
  rw [sm_const] at this; simpa using this
/-! floors: the sum along a line -/
def fs (n : Nat) (dv fa st : Int) : Int := sm (fun k => (fa * (k : Int) + st) / dv) n
theorem fs_take {n : Nat} {dv fa st : Int} (hd : 0 < dv) : fs n dv fa st = (n : Int) * ((n : Int) - 1) / 2 * (fa / dv) + (n : Int) * (st / dv) + fs n dv (fa % dv) (st % dv) := by
  have e : ∀ k : Nat, (fa * (k : Int) + st) / dv = (fa / dv) * (k : Int) + (st / dv) + (fa % dv * (k : Int) + st % dv) / dv := fun k => by
    have h1 := Int.emod_add_mul_ediv fa dv
    have h2 := Int.emod_add_mul_ediv st dv
    have : fa * (k : Int) + st = (fa % dv * (k : Int) + st % dv) + dv * ((fa / dv) * (k : Int) + st / dv) := by
      rw [Int.mul_add, ← Int.mul_assoc]
      have : fa * (k : Int) = fa % dv * (k : Int) + dv * (fa / dv) * (k : Int) := by rw [← Int.add_mul, h1]
      omega
    rw [this, Int.add_mul_ediv_left _ _ (by omega)]; omega
  unfold fs
  rw [sm_congr fun k _ => e k, sm_plus (fun k => (fa / dv) * (k : Int) + (st / dv)), sm_plus (fun k => (fa / dv) * (k : Int)), sm_mul, sm_const]
  have h3 : (n : Int) * ((n : Int) - 1) / 2 = sm (fun k => (k : Int)) n := by
    rw [← sm_id n]; exact Int.mul_ediv_cancel_left _ (by decide)
  rw [h3, Int.mul_comm (fa / dv), Int.mul_comm (st / dv)]
theorem div_same {x y d : Int} (hd : 0 < d) (h : x = d * y) : x / d = y := by rw [h]; exact Int.mul_ediv_cancel_left _ (by omega)
/-- counted along the other axis -/
theorem fs_turn {dv fa st : Int} (h0 : 0 ≤ fa) (h1 : fa < dv) (s0 : 0 ≤ st) (s1 : st < dv) : ∀ n : Nat, fs n dv fa st = fs ((fa * (n : Int) + st) / dv).toNat fa dv ((fa * (n : Int) + st) % dv)
  | 0 => by
    have : (fa * ((0 : Nat) : Int) + st) / dv = 0 := by
      rw [show fa * ((0 : Nat) : Int) + st = st by simp]; exact Int.ediv_eq_zero_of_lt s0 s1
    rw [this]; rfl
  | n + 1 => by
    have ih := fs_turn h0 h1 s0 s1 n
    have hl : fs (n + 1) dv fa st = fs n dv fa st + (fa * (n : Int) + st) / dv := rfl
    rw [hl, ih]
    have hd : 0 < dv := by omega
    have t0 : 0 ≤ fa * (n : Int) + st := by have := Int.mul_nonneg h0 (show (0 : Int) ≤ n by omega); omega
    have hq0 : 0 ≤ (fa * (n : Int) + st) / dv := Int.ediv_nonneg t0 (by omega)
    have r0 := Int.emod_nonneg (fa * (n : Int) + st) (show dv ≠ 0 by omega)
    have r1 := Int.emod_lt_of_pos (fa * (n : Int) + st) hd
    have e := Int.emod_add_mul_ediv (fa * (n : Int) + st) dv
    have en : fa * ((n + 1 : Nat) : Int) + st = (fa * (n : Int) + st) + fa := by
      rw [show (((n + 1 : Nat) : Int)) = (n : Int) + 1 by omega, Int.mul_add]; omega
    rw [en]
    generalize hy : (fa * (n : Int) + st) / dv = y at *
    generalize hr : (fa * (n : Int) + st) % dv = r at *
    have ex : fa * (n : Int) + st = r + dv * y := by omega
    rw [ex]
    rcases (show 0 = fa ∨ 0 < fa by omega) with z | fa0
    · -- a flat line
      subst z
      have y0 : y = 0 := by
        have : dv * y = st - r := by simp at ex; omega
        rcases Int.lt_or_le 0 y with k | k
        · have := Int.mul_le_mul_of_nonneg_left (show 1 ≤ y by omega) (show 0 ≤ dv by omega); omega
        · omega
      subst y0
      have : (r + dv * 0 + 0) / dv = 0 := by rw [show r + dv * 0 + 0 = r by omega]; exact Int.ediv_eq_zero_of_lt r0 r1
      rw [this]; rfl
    have shift : ∀ m : Nat, fs m fa dv (r + fa) = fs m fa dv r + (m : Int) := fun m => by
      unfold fs
      have : (m : Int) = sm (fun _ => (1 : Int)) m := by rw [sm_const]; omega
      rw [this, ← sm_plus]
      refine sm_congr fun k _ => ?_
      rw [show dv * (k : Int) + (r + fa) = (dv * (k : Int) + r) + fa * 1 by omega, Int.add_mul_ediv_left _ _ (by omega)]
    rcases Int.lt_or_le (r + fa) dv with k | k
    · have q1 : (r + dv * y + fa) / dv = y := by
        rw [show r + dv * y + fa = (r + fa) + dv * y by omega, Int.add_mul_ediv_left _ _ (by omega), Int.ediv_eq_zero_of_lt (by omega) k]; omega
      have q2 : (r + dv * y + fa) % dv = r + fa := by
        rw [show r + dv * y + fa = (r + fa) + dv * y by omega, Int.add_mul_emod_self_left]; exact Int.emod_eq_of_lt (by omega) k
      rw [q1, q2, shift]; omega
    · have q1 : (r + dv * y + fa) / dv = y + 1 := by
        rw [show r + dv * y + fa = (r + fa - dv) + dv * (y + 1) by rw [Int.mul_add]; omega, Int.add_mul_ediv_left _ _ (by omega), Int.ediv_eq_zero_of_lt (by omega) (by omega)]; omega
      have q2 : (r + dv * y + fa) % dv = r + fa - dv := by
        rw [show r + dv * y + fa = (r + fa - dv) + dv * (y + 1) by rw [Int.mul_add]; omega, Int.add_mul_emod_self_left]; exact Int.emod_eq_of_lt (by omega) (by omega)
      rw [q1, q2]
      have ey : (y + 1).toNat = 1 + y.toNat := by omega
      have : fs (1 + y.toNat) fa dv (r + fa - dv) = fs y.toNat fa dv (r + fa) := by
        unfold fs
        rw [sm_add]
        have h0' : sm (fun k => (dv * (k : Int) + (r + fa - dv)) / fa) 1 = 0 := by
          show 0 + (dv * ((0 : Nat) : Int) + (r + fa - dv)) / fa = 0
          rw [show dv * ((0 : Nat) : Int) + (r + fa - dv) = r + fa - dv by simp, Int.ediv_eq_zero_of_lt (by omega) (by omega)]; rfl
        rw [h0', Int.zero_add]
        refine sm_congr fun k _ => ?_
        congr 1
        rw [show (((1 + k : Nat) : Int)) = 1 + (k : Int) by omega, Int.mul_add]; omega
      rw [ey, this, shift]; omega
end Ar

set_option linter.all false
set_option maxRecDepth 10000
namespace Ar
/-! lanes f, f + c, ..; waves of W lanes, lines of S cells -/
structure LP where
  W : Int
  S : Int
  al : Int
  be : Int
def LP.ln (L : LP) (x : Int) : Int := (L.al * x + L.be) / L.S
def LP.wb (L : LP) (x y : Int) : Int := if x / L.W = y / L.W then 0 else 1
def LP.bk (L : LP) (x y : Int) : Int := if x / L.W = y / L.W ∧ L.ln x = L.ln y then 0 else 1
def lnk (f c : Int) (k : Nat) : Int := f + c * (k : Int)
/-- the lines of m lanes, wave by wave -/
def LP.CL (L : LP) (f c : Int) (m : Nat) : Int := if m = 0 then 0 else 1 + sm (fun k => L.bk (lnk f c k) (lnk f c (k + 1))) (m - 1)
def LP.WN (L : LP) (f c : Int) (m : Nat) : Int := if m = 0 then 0 else 1 + sm (fun k => L.wb (lnk f c k) (lnk f c (k + 1))) (m - 1)
theorem LP.bk01 (L : LP) (x y : Int) : 0 ≤ L.bk x y ∧ L.bk x y ≤ 1 := by unfold LP.bk; split <;> omega
theorem LP.wb_le (L : LP) (x y : Int) : L.wb x y ≤ L.bk x y := by
  unfold LP.wb LP.bk
  split
  · split <;> omega
  · rename_i h; rw [if_neg fun k => h k.1]; exact Int.le_refl 1
theorem LP.WN_le (L : LP) (f c : Int) (m : Nat) : L.WN f c m ≤ L.CL f c m := by
  unfold LP.WN LP.CL
  split
  · exact Int.le_refl 0
  · have := sm_le (F := fun k => L.wb (lnk f c k) (lnk f c (k + 1))) (G := fun k => L.bk (lnk f c k) (lnk f c (k + 1))) (n := m - 1) fun k _ => L.wb_le _ _
    omega
theorem LP.CL_le (L : LP) (f c : Int) (m : Nat) : L.CL f c m ≤ m := by
  unfold LP.CL
  split
  · omega
  · have := sm_le (F := fun k => L.bk (lnk f c k) (lnk f c (k + 1))) (G := fun _ => 1) (n := m - 1) fun k _ => (L.bk01 _ _).2
    rw [sm_const] at this
    omega
theorem LP.CL_nonneg (L : LP) (f c : Int) (m : Nat) : 0 ≤ L.CL f c m := by
  unfold LP.CL
  split
  · omega
  · have := sm_nonneg (F := fun k => L.bk (lnk f c k) (lnk f c (k + 1))) (n := m - 1) fun k _ => (L.bk01 _ _).1
    omega
/-- all lanes apart -/
theorem LP.CL_all (L : LP) (f c : Int) (m : Nat) (h : ∀ k : Nat, L.bk (lnk f c k) (lnk f c (k + 1)) = 1) : L.CL f c m = m := by
  unfold LP.CL
  split
  · omega
  · rw [sm_congr fun k _ => h k, sm_const]; omega
theorem lnk_succ (f c : Int) (k : Nat) : lnk f c (k + 1) = lnk f c k + c := by
  unfold lnk; rw [Int.natCast_add, Int.mul_add]; simp; omega
theorem div_far {x d s : Int} (hs : 0 < s) (h : s ≤ d) : x / s ≠ (x + d) / s := fun e => by
  have h1 := Int.emod_add_mul_ediv x s
  have h2 := Int.emod_add_mul_ediv (x + d) s
  have h3 := Int.emod_nonneg x (show s ≠ 0 by omega)
  have h4 := Int.emod_lt_of_pos x hs
  have h5 := Int.emod_nonneg (x + d) (show s ≠ 0 by omega)
  have h6 := Int.emod_lt_of_pos (x + d) hs
  rw [← e] at h2
  omega
theorem LP.bk_wave {L : LP} {f c : Int} {k : Nat} (hW : 0 < L.W) (h : L.W ≤ c) : L.bk (lnk f c k) (lnk f c (k + 1)) = 1 := by
  unfold LP.bk
  rw [lnk_succ, if_neg fun z => div_far hW h z.1]
theorem LP.cell_succ (L : LP) (f c : Int) (k : Nat) : L.al * lnk f c (k + 1) + L.be = (L.al * lnk f c k + L.be) + L.al * c := by
  rw [lnk_succ, Int.mul_add]; omega
theorem LP.bk_line {L : LP} {f c : Int} {k : Nat} (hS : 0 < L.S) (h : L.S ≤ (L.al * c).natAbs) : L.bk (lnk f c k) (lnk f c (k + 1)) = 1 := by
  unfold LP.bk LP.ln
  rw [L.cell_succ, if_neg]
  rintro ⟨_, z⟩
  rcases Int.lt_or_le (L.al * c) 0 with n | n
  · have := div_far (x := L.al * lnk f c k + L.be + L.al * c) (d := -(L.al * c)) hS (by omega)
    rw [show L.al * lnk f c k + L.be + L.al * c + -(L.al * c) = L.al * lnk f c k + L.be by omega] at this
    exact this z.symm
  · exact div_far hS (by omega) z
/-- by lines thrice as long there are no more -/
theorem LP.CL_grow (L : LP) (f c : Int) (m : Nat) (t : Int) (hS : 0 < L.S) (ht : 0 < t) : LP.CL ⟨L.W, L.S * t, L.al, L.be⟩ f c m ≤ L.CL f c m := by
  unfold LP.CL
  split
  · exact Int.le_refl 0
  · have := sm_le (F := fun k => LP.bk ⟨L.W, L.S * t, L.al, L.be⟩ (lnk f c k) (lnk f c (k + 1))) (G := fun k => L.bk (lnk f c k) (lnk f c (k + 1))) (n := m - 1) fun k _ => by
      unfold LP.bk LP.ln
      dsimp only
      by_cases z : lnk f c k / L.W = lnk f c (k + 1) / L.W ∧ (L.al * lnk f c k + L.be) / L.S = (L.al * lnk f c (k + 1) + L.be) / L.S
      · rw [if_pos z, if_pos ⟨z.1, by rw [← Int.ediv_ediv_of_nonneg (by omega), ← Int.ediv_ediv_of_nonneg (by omega), z.2]⟩]
        exact Int.le_refl 0
      · rw [if_neg z]; split <;> omega
    omega
/-- cut at the begin of a wave -/
theorem LP.CL_cut (L : LP) (f c : Int) (p q : Nat) (x : Int) (hW : 0 < L.W) (hx : x % L.W = 0) (h1 : 0 < p → lnk f c (p - 1) < x) (h2 : 0 < q → x ≤ lnk f c p) : L.CL f c (p + q) = L.CL f c p + L.CL (lnk f c p) c q := by
  have shift : ∀ k : Nat, lnk (lnk f c p) c k = lnk f c (p + k) := fun k => by
    unfold lnk; rw [Int.natCast_add, Int.mul_add]; omega
  unfold LP.CL
  by_cases hp : p = 0
  · subst hp
    have e0 : lnk f c 0 = f := by simp [lnk]
    rw [if_pos (c := (0 : Nat) = 0) rfl, e0, Nat.zero_add]; omega
  by_cases hq : q = 0
  · subst hq
    rw [if_pos (c := (0 : Nat) = 0) rfl, Nat.add_zero]; omega
  rw [if_neg (by omega), if_neg hp, if_neg hq]
  have e1 : p + q - 1 = (p - 1) + (1 + (q - 1)) := by omega
  rw [e1, sm_add, sm_add]
  have e2 : sm (fun k => L.bk (lnk f c (p - 1 + (1 + k))) (lnk f c (p - 1 + (1 + k) + 1))) (q - 1) = sm (fun k => L.bk (lnk (lnk f c p) c k) (lnk (lnk f c p) c (k + 1))) (q - 1) := sm_congr fun k _ => by
    rw [shift, shift]; congr 2 <;> omega
  have e3 : sm (fun k => L.bk (lnk f c (p - 1 + k)) (lnk f c (p - 1 + k + 1))) 1 = 1 := by
    show 0 + L.bk (lnk f c (p - 1 + 0)) (lnk f c (p - 1 + 0 + 1)) = 1
    rw [Nat.add_zero, show p - 1 + 1 = p by omega]
    unfold LP.bk
    rw [if_neg]
    · rfl
    rintro ⟨z, _⟩
    have a1 := h1 (by omega)
    have a2 := h2 (by omega)
    -- x is the begin of a wave
    obtain ⟨y, hy⟩ := Int.dvd_of_emod_eq_zero hx
    have b1 : lnk f c (p - 1) / L.W < y := Int.ediv_lt_of_lt_mul hW (by rw [Int.mul_comm]; omega)
    have b2 : y ≤ lnk f c p / L.W := Int.le_ediv_of_mul_le hW (by rw [Int.mul_comm]; omega)
    omega
  rw [e2, e3]; omega
/-! the lines are no fewer than the lanes by the size of a line -/
theorem LP.CL_far {L : LP} {f c : Int} (hS : 0 < L.S) (hc : 0 < c) (ha : L.al ≠ 0) : ∀ m : Nat, (m : Int) ≤ L.S * L.CL f c m := by
  have key : ∀ n : Nat, ((n : Int) + 1) ≤ L.S * (1 + sm (fun k => L.bk (lnk f c k) (lnk f c (k + 1))) n) - (if 0 < L.al then L.S - 1 - (L.al * lnk f c n + L.be) % L.S else (L.al * lnk f c n + L.be) % L.S) := by
    intro n
    induction n with
    | zero =>
      show ((0 : Nat) : Int) + 1 ≤ L.S * (1 + 0) - _
      have h1 := Int.emod_nonneg (L.al * lnk f c 0 + L.be) (show L.S ≠ 0 by omega)
      have h2 := Int.emod_lt_of_pos (L.al * lnk f c 0 + L.be) hS
      split <;> omega
    | succ n ih =>
      show (((n + 1 : Nat) : Int) + 1) ≤ L.S * (1 + (sm (fun k => L.bk (lnk f c k) (lnk f c (k + 1))) n + L.bk (lnk f c n) (lnk f c (n + 1)))) - _
      have g1 := Int.emod_add_mul_ediv (L.al * lnk f c n + L.be) L.S
      have g2 := Int.emod_add_mul_ediv (L.al * lnk f c (n + 1) + L.be) L.S
      have h1 := Int.emod_nonneg (L.al * lnk f c n + L.be) (show L.S ≠ 0 by omega)
      have h2 := Int.emod_lt_of_pos (L.al * lnk f c n + L.be) hS
      have h3 := Int.emod_nonneg (L.al * lnk f c (n + 1) + L.be) (show L.S ≠ 0 by omega)
      have h4 := Int.emod_lt_of_pos (L.al * lnk f c (n + 1) + L.be) hS
      have hs := L.cell_succ f c n
      generalize sm (fun k => L.bk (lnk f c k) (lnk f c (k + 1))) n = s at ih ⊢
      by_cases z : L.ln (lnk f c n) = L.ln (lnk f c (n + 1))
      · have z' : (L.al * lnk f c n + L.be) / L.S = (L.al * lnk f c (n + 1) + L.be) / L.S := z
        rw [z'] at g1
        generalize L.S * ((L.al * lnk f c (n + 1) + L.be) / L.S) = Q at g1 g2
        have hb := (L.bk01 (lnk f c n) (lnk f c (n + 1))).1
        have hm : L.S * (1 + s) ≤ L.S * (1 + (s + L.bk (lnk f c n) (lnk f c (n + 1)))) := Int.mul_le_mul_of_nonneg_left (by omega) (by omega)
        by_cases p : 0 < L.al
        · have : 0 < L.al * c := Int.mul_pos p hc
          rw [if_pos p] at ih ⊢
          push_cast
          omega
        · have : L.al * c < 0 := Int.mul_neg_of_neg_of_pos (by omega) hc
          rw [if_neg p] at ih ⊢
          push_cast
          omega
      · have : L.bk (lnk f c n) (lnk f c (n + 1)) = 1 := by unfold LP.bk; rw [if_neg fun k => z k.2]
        rw [this, ← Int.add_assoc, Int.mul_add L.S (1 + s) 1, Int.mul_one]
        push_cast
        split at ih <;> split <;> omega
  intro m
  unfold LP.CL
  split
  · subst m; simp
  · have k := key (m - 1)
    have h1 := Int.emod_nonneg (L.al * lnk f c (m - 1) + L.be) (show L.S ≠ 0 by omega)
    have h2 := Int.emod_lt_of_pos (L.al * lnk f c (m - 1) + L.be) hS
    split at k <;> omega
end Ar

set_option linter.all false
set_option maxRecDepth 10000
namespace Ar
/-! the different values of a monotone row -/
def ne01 (x y : Int) : Int := if x = y then 0 else 1
def MONO (v : Nat → Int) : Prop := (∀ k, v k ≤ v (k + 1)) ∨ (∀ k, v (k + 1) ≤ v k)
theorem mono_le {v : Nat → Int} (h : ∀ k, v k ≤ v (k + 1)) (i : Nat) : ∀ j, v i ≤ v (i + j)
  | 0 => Int.le_refl _
  | j + 1 => Int.le_trans (mono_le h i j) (h (i + j))
theorem mono_ge {v : Nat → Int} (h : ∀ k, v (k + 1) ≤ v k) (i : Nat) : ∀ j, v (i + j) ≤ v i
  | 0 => Int.le_refl _
  | j + 1 => Int.le_trans (h (i + j)) (mono_ge h i j)
theorem mono_eq {v : Nat → Int} (h : MONO v) {i n : Nat} (hi : i ≤ n) (e : v i = v (n + 1)) : v n = v (n + 1) := by
  rcases h with h | h
  · have h1 := mono_le h i (n - i); have h2 := h n
    rw [show i + (n - i) = n by omega] at h1
    omega
  · have h1 := mono_ge h i (n - i); have h2 := h n
    rw [show i + (n - i) = n by omega] at h1
    omega
theorem distinct {v : Nat → Int} (h : MONO v) : ∀ m : Nat, ∃ out : List Int, out.Nodup ∧ (∀ y, y ∈ out ↔ ∃ k, k < m + 1 ∧ v k = y) ∧ (out.length : Int) = 1 + sm (fun k => ne01 (v k) (v (k + 1))) m
  | 0 => ⟨[v 0], by simp, fun y => by
      rw [List.mem_singleton]
      constructor
      · intro e; exact ⟨0, by omega, e.symm⟩
      · rintro ⟨k, hk, e⟩; rw [show k = 0 by omega] at e; exact e.symm, rfl⟩
  | m + 1 => by
    obtain ⟨out, nd, hm, hl⟩ := distinct h m
    have mem2 : ∀ y, (∃ k, k < m + 1 + 1 ∧ v k = y) ↔ (∃ k, k < m + 1 ∧ v k = y) ∨ v (m + 1) = y := fun y => by
      constructor
      · rintro ⟨k, hk, e⟩
        rcases (show k < m + 1 ∨ k = m + 1 by omega) with z | z
        · exact .inl ⟨k, z, e⟩
        · exact .inr (z ▸ e)
      · rintro (⟨k, hk, e⟩ | e)
        · exact ⟨k, by omega, e⟩
        · exact ⟨m + 1, by omega, e⟩
    have hs : sm (fun k => ne01 (v k) (v (k + 1))) (m + 1) = sm (fun k => ne01 (v k) (v (k + 1))) m + ne01 (v m) (v (m + 1)) := rfl
    rw [hs]
    by_cases z : v m = v (m + 1)
    · refine ⟨out, nd, fun y => ?_, ?_⟩
      · rw [hm y, mem2 y]
        constructor
        · exact .inl
        · rintro (k | k)
          · exact k
          · exact ⟨m, by omega, z.trans k⟩
      · unfold ne01; rw [if_pos z]; unfold ne01 at hl; omega
    · refine ⟨out ++ [v (m + 1)], ?_, fun y => ?_, ?_⟩
      · rw [List.nodup_append]
        refine ⟨nd, by simp, fun x hx y hy e => ?_⟩
        rw [List.mem_singleton.mp hy] at e
        obtain ⟨k, hk, ek⟩ := (hm x).mp hx
        exact z (mono_eq h (i := k) (n := m) (by omega) (ek.trans e))
      · rw [List.mem_append, List.mem_singleton, hm y, mem2 y]
        constructor
        · rintro (k | k)
          · exact .inl k
          · exact .inr k.symm
        · rintro (k | k)
          · exact .inl k
          · exact .inr k.symm
      · rw [List.length_append]
        have : ne01 (v m) (v (m + 1)) = 1 := by unfold ne01; rw [if_neg z]
        rw [this]
        have : (([v (m + 1)] : List Int).length : Int) = 1 := rfl
        push_cast
        omega
theorem nodup_le2 : ∀ {l m : List Int}, l.Nodup → (∀ x ∈ l, x ∈ m) → l.length ≤ m.length
  | [], m, _, _ => Nat.zero_le _
  | a :: l, m, nd, s => by
    obtain ⟨n1, n2⟩ := List.nodup_cons.mp nd
    have ha := s a List.mem_cons_self
    have : l.length ≤ (m.erase a).length := nodup_le2 n2 fun x hx => by
      have hne : x ≠ a := fun z => n1 (z ▸ hx)
      exact (List.mem_erase_of_ne hne).mpr (s x (List.mem_cons_of_mem _ hx))
    rw [List.length_erase_of_mem ha] at this
    have : 0 < m.length := List.length_pos_of_mem ha
    rw [List.length_cons]; omega
theorem LP.mono {L : LP} {f c : Int} (hS : 0 < L.S) (hc : 0 < c) : MONO fun k => L.ln (lnk f c k) := by
  unfold LP.ln
  rcases Int.lt_or_le L.al 0 with n | n
  · refine .inr fun k => ?_
    dsimp only
    rw [L.cell_succ]
    have : L.al * c ≤ 0 := Int.le_of_lt (Int.mul_neg_of_neg_of_pos n hc)
    exact Int.ediv_le_ediv hS (by omega)
  · refine .inl fun k => ?_
    dsimp only
    rw [L.cell_succ]
    have : 0 ≤ L.al * c := Int.mul_nonneg n (by omega)
    exact Int.ediv_le_ediv hS (by omega)
/-- in one wave: the different lines -/
theorem LP.one_wave {L : LP} {f c : Int} {m : Nat} {n : Int} (hS : 0 < L.S) (hc : 0 < c) (hw : ∀ k, k < m → lnk f c k / L.W = n) {out : List Int} (nd : out.Nodup) (hm : ∀ y, y ∈ out ↔ ∃ k, k < m ∧ L.ln (lnk f c k) = y) : (out.length : Int) = L.CL f c m := by
  unfold LP.CL
  by_cases z : m = 0
  · rw [if_pos z]
    subst z
    cases out with
    | nil => rfl
    | cons y r => obtain ⟨k, hk, _⟩ := (hm y).mp (by simp); omega
  · rw [if_neg z]
    obtain ⟨o2, nd2, hm2, hl2⟩ := distinct (LP.mono (L := L) (f := f) (c := c) hS hc) (m - 1)
    have e1 : out.length = o2.length := by
      have a := nodup_le2 nd fun x hx => (hm2 x).mpr (by rw [show m - 1 + 1 = m by omega]; exact (hm x).mp hx)
      have b := nodup_le2 nd2 fun x hx => (hm x).mpr (by have := (hm2 x).mp hx; rwa [show m - 1 + 1 = m by omega] at this)
      omega
    rw [e1, hl2]
    congr 1
    refine sm_congr fun k hk => ?_
    unfold LP.bk ne01
    have w1 := hw k (by omega)
    have w2 := hw (k + 1) (by omega)
    by_cases q : L.ln (lnk f c k) = L.ln (lnk f c (k + 1))
    · rw [if_pos q, if_pos ⟨w1.trans w2.symm, q⟩]
    · rw [if_neg q, if_neg fun k => q k.2]
/-! of a guard -/
def LP.CG (L : LP) (a b c d : Int) : Int := L.CL (fst a c d) c (cnt a b c d).toNat
theorem fst_at {a x c d : Int} (hc : 0 < c) (h0 : 0 ≤ d) (h1 : d < c) (hax : a ≤ x) : fst x c d = lnk (fst a c d) c (cnt a x c d).toNat := by
  have hn := cnt_nonneg (d := d) hc hax
  have e : ((cnt a x c d).toNat : Int) = cnt a x c d := by omega
  unfold lnk
  rw [e, Int.mul_comm]
  -- both have the remainder d, and lie from x on, below x + c
  refine mod_uniq (b := x) hc ?_ (fst_ge hc) (fst_lt hc) ?_ ?_
  · rw [fst_mod hc h0 h1, nth_mod hc h0 h1]
  · refine Int.not_lt.mp fun z => ?_
    have := (cnt_lt (a := a) (b := x) (d := d) (k := cnt a x c d) hc hn).mpr z
    omega
  · rcases (show cnt a x c d = 0 ∨ 0 < cnt a x c d by omega) with z | z
    · rw [z, Int.zero_mul, Int.add_zero]
      have := fst_lt (a := a) (d := d) hc; omega
    · have := (cnt_lt (a := a) (b := x) (d := d) (k := cnt a x c d - 1) hc (by omega)).mp (by omega)
      rw [Int.sub_mul] at this; omega
theorem LP.CG_cut {L : LP} {a x b c d : Int} (hW : 0 < L.W) (hc : 0 < c) (h0 : 0 ≤ d) (h1 : d < c) (hax : a ≤ x) (hxb : x ≤ b) (hx : x % L.W = 0) : L.CG a b c d = L.CG a x c d + L.CG x b c d := by
  unfold LP.CG
  have n1 := cnt_nonneg (d := d) hc hax
  have n2 := cnt_nonneg (d := d) hc hxb
  have e := cnt_cut hc h0 h1 hax hxb
  have e2 : (cnt a b c d).toNat = (cnt a x c d).toNat + (cnt x b c d).toNat := by omega
  rw [e2, L.CL_cut (fst a c d) c _ _ x hW hx ?_ ?_, ← fst_at hc h0 h1 hax]
  · intro p
    have := (cnt_lt (a := a) (b := x) (d := d) (k := cnt a x c d - 1) hc (by omega)).mp (by omega)
    unfold lnk
    rw [show (((cnt a x c d).toNat - 1 : Nat) : Int) = cnt a x c d - 1 by omega, Int.mul_comm]
    exact this
  · intro _
    rw [← fst_at hc h0 h1 hax]; exact fst_ge hc
theorem LP.CG_none {L : LP} {a c d : Int} (hc : 0 < c) : L.CG a a c d = 0 := by
  unfold LP.CG
  have h1 := cnt_nonneg (a := a) (b := a) (d := d) hc (by omega)
  have h2 := cnt_le (a := a) (b := a) (d := d) hc (by omega)
  rw [show (cnt a a c d).toNat = 0 by omega]; rfl
/-! by periods -/
theorem sm_upd (F G : Nat → Int) (p : Nat) (x : Int) : ∀ n, (∀ k, k < n → G k = F k + if k = p then x else 0) → sm G n = sm F n + if p < n then x else 0
  | 0, _ => rfl
  | n + 1, h => by
    show sm G n + G n = sm F n + F n + _
    rw [sm_upd F G p x n fun k hk => h k (by omega), h n (by omega)]
    by_cases z1 : p < n
    · rw [if_pos z1, if_neg (by omega), if_pos (by omega)]; omega
    · by_cases z2 : n = p
      · rw [if_neg z1, if_pos z2, if_pos (by omega)]; omega
      · rw [if_neg z1, if_neg z2, if_neg (by omega)]; omega
/-- how many turns a place has -/
def turns (P n p : Nat) : Nat := (n + P - 1 - p) / P
theorem turns_succ {P n p : Nat} (hP : 0 < P) (hp : p < P) : turns P (n + 1) p = turns P n p + if n % P = p then 1 else 0 := by
  unfold turns
  have h1 := Nat.div_add_mod n P
  have h2 := Nat.mod_lt n hP
  generalize n / P = q at h1
  generalize n % P = r at h1 h2 ⊢
  subst h1
  by_cases z : r = p
  · rw [if_pos z]
    subst z
    rw [show P * q + r + 1 + P - 1 - r = P * (q + 1) by rw [Nat.mul_add]; omega, show P * q + r + P - 1 - r = P * q + (P - 1) by omega, Nat.mul_div_cancel_left _ hP, Nat.mul_add_div hP, Nat.div_eq_of_lt (show P - 1 < P by omega)]
  · rw [if_neg z]
    rcases Nat.lt_or_gt_of_ne z with w | w
    · rw [show P * q + r + 1 + P - 1 - p = P * q + (r + P - p) by omega, show P * q + r + P - 1 - p = P * q + (r + P - 1 - p) by omega, Nat.mul_add_div hP, Nat.mul_add_div hP, Nat.div_eq_of_lt (show r + P - p < P by omega), Nat.div_eq_of_lt (show r + P - 1 - p < P by omega)]
    · rw [show P * q + r + 1 + P - 1 - p = P * (q + 1) + (r - p) by rw [Nat.mul_add]; omega, show P * q + r + P - 1 - p = P * (q + 1) + (r - 1 - p) by rw [Nat.mul_add]; omega, Nat.mul_add_div hP, Nat.mul_add_div hP, Nat.div_eq_of_lt (show r - p < P by omega), Nat.div_eq_of_lt (show r - 1 - p < P by omega)]
theorem turns_at {P n : Nat} (hP : 0 < P) : turns P n (n % P) = n / P := by
  unfold turns
  have h1 := Nat.div_add_mod n P
  have h2 := Nat.mod_lt n hP
  have e : n + P - 1 - n % P = P * (n / P) + (P - 1) := by omega
  rw [e, Nat.mul_add_div hP, Nat.div_eq_of_lt (show P - 1 < P by omega)]; omega
theorem regroup {P : Nat} (hP : 0 < P) (F : Nat → Int) : ∀ n, sm F n = sm (fun p => sm (fun j => F (p + P * j)) (turns P n p)) P
  | 0 => by
    have : sm (fun p => sm (fun j => F (p + P * j)) (turns P 0 p)) P = sm (fun _ => 0) P := sm_congr fun p hp => by
      have : turns P 0 p = 0 := by unfold turns; exact Nat.div_eq_of_lt (by omega)
      rw [this]; rfl
    rw [this, sm_const]; simp [sm]
  | n + 1 => by
    have ih := regroup hP F n
    show sm F n + F n = _
    have h2 := Nat.mod_lt n hP
    rw [sm_upd (fun p => sm (fun j => F (p + P * j)) (turns P n p)) _ (n % P) (F n) P ?_, ← ih, if_pos h2]
    intro p hp
    rw [turns_succ hP hp]
    by_cases z : n % P = p
    · rw [if_pos z, if_pos z.symm]
      show sm _ (turns P n p) + F (p + P * turns P n p) = _
      subst z
      rw [turns_at hP]
      congr 2
      have := Nat.div_add_mod n P
      omega
    · rw [if_neg z, if_neg fun k => z k.symm]; simp
/-- places beyond the end have no turn -/
theorem sm_min (F : Nat → Int) (n : Nat) (h : ∀ p, n ≤ p → F p = 0) : ∀ P, sm F P = sm F (min P n)
  | 0 => by rw [Nat.zero_min]
  | P + 1 => by
    show sm F P + F P = _
    by_cases z : P < n
    · rw [show min (P + 1) n = P + 1 by omega]; rfl
    · rw [h P (by omega), sm_min F n h P, show min (P + 1) n = min P n by omega]; omega
end Ar

set_option linter.all false
set_option maxRecDepth 10000
namespace Ar
/-! waves -/
theorem LP.wb_diff {L : LP} {f c : Int} (hW : 0 < L.W) (hc : 0 ≤ c) (h : c < L.W) (k : Nat) : L.wb (lnk f c k) (lnk f c (k + 1)) = lnk f c (k + 1) / L.W - lnk f c k / L.W := by
  unfold LP.wb
  rw [lnk_succ]
  have g1 := Int.emod_add_mul_ediv (lnk f c k) L.W
  have g2 := Int.emod_add_mul_ediv (lnk f c k + c) L.W
  have h1 := Int.emod_nonneg (lnk f c k) (show L.W ≠ 0 by omega)
  have h2 := Int.emod_lt_of_pos (lnk f c k) hW
  have h3 := Int.emod_nonneg (lnk f c k + c) (show L.W ≠ 0 by omega)
  have h4 := Int.emod_lt_of_pos (lnk f c k + c) hW
  have m1 : lnk f c k / L.W ≤ (lnk f c k + c) / L.W := Int.ediv_le_ediv hW (by omega)
  have m2 : (lnk f c k + c) / L.W ≤ lnk f c k / L.W + 1 := by
    rw [← Int.add_mul_ediv_left _ _ (show L.W ≠ 0 by omega)]
    exact Int.ediv_le_ediv hW (by omega)
  split <;> omega
theorem sm_tele (v : Nat → Int) : ∀ n, sm (fun k => v (k + 1) - v k) n = v n - v 0
  | 0 => by show (0 : Int) = _; omega
  | n + 1 => by
    show sm (fun k => v (k + 1) - v k) n + (v (n + 1) - v n) = _
    rw [sm_tele v n]; omega
theorem LP.WN_eq {L : LP} {f c : Int} {m : Nat} (hW : 0 < L.W) (hc : 0 ≤ c) (h : c < L.W) (hm : 0 < m) : L.WN f c m = lnk f c (m - 1) / L.W - f / L.W + 1 := by
  unfold LP.WN
  rw [if_neg (by omega), sm_congr fun k _ => L.wb_diff hW hc h k, sm_tele (fun k => lnk f c k / L.W)]
  have : lnk f c 0 = f := by simp [lnk]
  rw [this]; omega
theorem LP.WN_all {L : LP} {f c : Int} {m : Nat} (hW : 0 < L.W) (h : L.W ≤ c) : L.WN f c m = m := by
  unfold LP.WN
  split
  · omega
  · have : ∀ k : Nat, L.wb (lnk f c k) (lnk f c (k + 1)) = 1 := fun k => by
      unfold LP.wb; rw [lnk_succ, if_neg (div_far hW h)]
    rw [sm_congr fun k _ => this k, sm_const]; omega
/-! lines that change within a wave -/
def LP.ch (L : LP) (f c : Int) (k : Nat) : Int := if lnk f c k / L.W = lnk f c (k + 1) / L.W then ne01 (L.ln (lnk f c k)) (L.ln (lnk f c (k + 1))) else 0
theorem LP.CL_split (L : LP) (f c : Int) (m : Nat) : L.CL f c m = L.WN f c m + sm (L.ch f c) (m - 1) := by
  unfold LP.CL LP.WN
  split
  · subst m; rfl
  · have : ∀ k : Nat, L.bk (lnk f c k) (lnk f c (k + 1)) = L.wb (lnk f c k) (lnk f c (k + 1)) + L.ch f c k := fun k => by
      unfold LP.bk LP.wb LP.ch ne01
      by_cases z : lnk f c k / L.W = lnk f c (k + 1) / L.W
      · by_cases y : L.ln (lnk f c k) = L.ln (lnk f c (k + 1))
        · rw [if_pos ⟨z, y⟩, if_pos z, if_pos z, if_pos y]; rfl
        · rw [if_neg fun k => y k.2, if_pos z, if_pos z, if_neg y]; rfl
      · rw [if_neg fun k => z k.1, if_neg z, if_neg z]; rfl
    rw [sm_congr fun k _ => this k, sm_plus]; omega
/-- the period of the lanes by waves -/
def per (c W : Nat) : Nat := W / Nat.gcd c W
theorem per_pos {c W : Nat} (hW : 0 < W) : 0 < per c W := Nat.div_pos (Nat.le_of_dvd hW (Nat.gcd_dvd_right c W)) (Nat.gcd_pos_of_pos_right c hW)
theorem per_mul {c W : Nat} (hW : 0 < W) : ∃ t : Nat, c * per c W = W * t := by
  unfold per
  refine ⟨c / Nat.gcd c W, ?_⟩
  have h1 := Nat.mul_div_cancel' (Nat.gcd_dvd_right c W)
  have h2 := Nat.mul_div_cancel' (Nat.gcd_dvd_left c W)
  have g0 := Nat.gcd_pos_of_pos_right c hW
  apply Nat.eq_of_mul_eq_mul_left g0
  calc Nat.gcd c W * (c * (W / Nat.gcd c W)) = c * (Nat.gcd c W * (W / Nat.gcd c W)) := by rw [Nat.mul_left_comm]
    _ = c * W := by rw [h1]
    _ = W * c := Nat.mul_comm c W
    _ = W * (Nat.gcd c W * (c / Nat.gcd c W)) := by rw [h2]
    _ = Nat.gcd c W * (W * (c / Nat.gcd c W)) := by rw [Nat.mul_left_comm]
theorem lnk_per (f c : Int) (p P j : Nat) : lnk f c (p + P * j) = lnk f c p + c * (P : Int) * (j : Int) := by
  unfold lnk; push_cast; rw [Int.mul_add, Int.mul_assoc]; omega
/-- the changes of one place within the period -/
def LP.chg (L : LP) (f c : Int) (P n p : Nat) : Int := if lnk f c p / L.W = lnk f c (p + 1) / L.W then
  ((fs (turns P n p) L.S (L.al * c * (P : Int)) (L.al * lnk f c p + L.be + L.al * c) - fs (turns P n p) L.S (L.al * c * (P : Int)) (L.al * lnk f c p + L.be)).natAbs : Int) else 0
theorem sm_sub (F G : Nat → Int) : ∀ n, sm F n - sm G n = sm (fun k => F k - G k) n
  | 0 => rfl
  | n + 1 => by
    show (sm F n + F n) - (sm G n + G n) = sm (fun k => F k - G k) n + (F n - G n)
    rw [← sm_sub F G n]; omega
theorem step_line {x d S : Int} (hS : 0 < S) (h : (d.natAbs : Int) < S) : (0 ≤ d ∧ (x + d) / S - x / S = ne01 (x / S) ((x + d) / S)) ∨ (d < 0 ∧ x / S - (x + d) / S = ne01 (x / S) ((x + d) / S)) := by
  unfold ne01
  rcases Int.lt_or_le d 0 with n | n
  · refine .inr ⟨n, ?_⟩
    have m1 : (x + d) / S ≤ x / S := Int.ediv_le_ediv hS (by omega)
    have m2 : x / S ≤ (x + d) / S + 1 := by
      rw [← Int.add_mul_ediv_left _ _ (show S ≠ 0 by omega)]
      exact Int.ediv_le_ediv hS (by omega)
    split <;> omega
  · refine .inl ⟨n, ?_⟩
    have m1 : x / S ≤ (x + d) / S := Int.ediv_le_ediv hS (by omega)
    have m2 : (x + d) / S ≤ x / S + 1 := by
      rw [← Int.add_mul_ediv_left _ _ (show S ≠ 0 by omega)]
      exact Int.ediv_le_ediv hS (by omega)
    split <;> omega
theorem LP.place {L : LP} {f c : Int} {P n p : Nat} {t : Int} (hW : 0 < L.W) (hS : 0 < L.S) (ht : c * (P : Int) = L.W * t) (h : ((L.al * c).natAbs : Int) < L.S) : sm (fun j => L.ch f c (p + P * j)) (turns P n p) = L.chg f c P n p := by
  have wave : ∀ j : Nat, (lnk f c (p + P * j) / L.W = lnk f c (p + P * j + 1) / L.W) ↔ (lnk f c p / L.W = lnk f c (p + 1) / L.W) := fun j => by
    rw [lnk_succ, lnk_succ, lnk_per, ht, Int.mul_assoc]
    rw [show lnk f c p + L.W * (t * (j : Int)) + c = (lnk f c p + c) + L.W * (t * (j : Int)) by omega, Int.add_mul_ediv_left _ _ (by omega), Int.add_mul_ediv_left _ _ (by omega)]
    constructor <;> intro z <;> omega
  unfold LP.chg
  by_cases z : lnk f c p / L.W = lnk f c (p + 1) / L.W
  · rw [if_pos z]
    have e1 : ∀ j : Nat, L.ch f c (p + P * j) = ne01 ((L.al * c * (P : Int) * (j : Int) + (L.al * lnk f c p + L.be)) / L.S) ((L.al * c * (P : Int) * (j : Int) + (L.al * lnk f c p + L.be) + L.al * c) / L.S) := fun j => by
      unfold LP.ch
      rw [if_pos ((wave j).mpr z)]
      unfold LP.ln
      rw [L.cell_succ, lnk_per]
      have : L.al * (lnk f c p + c * (P : Int) * (j : Int)) + L.be = L.al * c * (P : Int) * (j : Int) + (L.al * lnk f c p + L.be) := by
        rw [Int.mul_add, ← Int.mul_assoc, ← Int.mul_assoc]; omega
      rw [this]
    rw [sm_congr fun j _ => e1 j]
    unfold fs
    have e2 : ∀ j : Nat, (L.al * c * (P : Int) * (j : Int) + (L.al * lnk f c p + L.be + L.al * c)) = (L.al * c * (P : Int) * (j : Int) + (L.al * lnk f c p + L.be) + L.al * c) := fun j => by omega
    rw [sm_congr (F := fun k => (L.al * c * (P : Int) * (k : Int) + (L.al * lnk f c p + L.be + L.al * c)) / L.S) fun j _ => by rw [e2 j], sm_sub]
    have nn : 0 ≤ sm (fun j => ne01 ((L.al * c * (P : Int) * (j : Int) + (L.al * lnk f c p + L.be)) / L.S) ((L.al * c * (P : Int) * (j : Int) + (L.al * lnk f c p + L.be) + L.al * c) / L.S)) (turns P n p) := sm_nonneg fun k _ => by unfold ne01; split <;> omega
    rcases Int.lt_or_le (L.al * c) 0 with q | q
    · have e3 : sm (fun j => (L.al * c * (P : Int) * (j : Int) + (L.al * lnk f c p + L.be) + L.al * c) / L.S - (L.al * c * (P : Int) * (j : Int) + (L.al * lnk f c p + L.be)) / L.S) (turns P n p) = -1 * sm (fun j => ne01 ((L.al * c * (P : Int) * (j : Int) + (L.al * lnk f c p + L.be)) / L.S) ((L.al * c * (P : Int) * (j : Int) + (L.al * lnk f c p + L.be) + L.al * c) / L.S)) (turns P n p) := by
        rw [← sm_mul]
        refine sm_congr fun j _ => ?_
        rcases step_line (x := L.al * c * (P : Int) * (j : Int) + (L.al * lnk f c p + L.be)) hS h with ⟨y, k⟩ | ⟨y, k⟩ <;> omega
      rw [e3]; omega
    · have e3 : sm (fun j => (L.al * c * (P : Int) * (j : Int) + (L.al * lnk f c p + L.be) + L.al * c) / L.S - (L.al * c * (P : Int) * (j : Int) + (L.al * lnk f c p + L.be)) / L.S) (turns P n p) = sm (fun j => ne01 ((L.al * c * (P : Int) * (j : Int) + (L.al * lnk f c p + L.be)) / L.S) ((L.al * c * (P : Int) * (j : Int) + (L.al * lnk f c p + L.be) + L.al * c) / L.S)) (turns P n p) := by
        refine sm_congr fun j _ => ?_
        rcases step_line (x := L.al * c * (P : Int) * (j : Int) + (L.al * lnk f c p + L.be)) hS h with ⟨y, k⟩ | ⟨y, k⟩ <;> omega
      rw [e3]; omega
  · rw [if_neg z]
    have : sm (fun j => L.ch f c (p + P * j)) (turns P n p) = sm (fun _ => 0) (turns P n p) := sm_congr fun j _ => by
      unfold LP.ch; rw [if_neg fun k => z ((wave j).mp k)]
    rw [this, sm_const]; simp
/-- all changes -/
theorem LP.changes {L : LP} {f : Int} {c P n : Nat} (hW : 0 < L.W) (hS : 0 < L.S) (hP : P = per c L.W.toNat) (h : ((L.al * (c : Int)).natAbs : Int) < L.S) : sm (L.ch f c) n = sm (L.chg f c P n) (min P n) := by
  have hw : 0 < L.W.toNat := by omega
  have p0 : 0 < P := by rw [hP]; exact per_pos hw
  obtain ⟨t, ht⟩ := per_mul (c := c) hw
  rw [← hP] at ht
  have ht' : (c : Int) * (P : Int) = L.W * (t : Int) := by
    have : ((c * P : Nat) : Int) = ((L.W.toNat * t : Nat) : Int) := by rw [ht]
    push_cast at this
    rw [this, show ((L.W.toNat : Nat) : Int) = L.W by omega]
  rw [regroup p0 (L.ch f c) n, sm_congr fun p _ => LP.place hW hS ht' h]
  refine sm_min _ n (fun p hp => ?_) P
  have : turns P n p = 0 := by unfold turns; exact Nat.div_eq_of_lt (by omega)
  unfold LP.chg
  rw [this]
  split <;> rfl
/-! the mirrored lanes -/
def LP.mir (L : LP) (N : Int) : LP := ⟨L.W, L.S, -L.al, L.be + L.al * (N - 1)⟩
theorem LP.bk_comm (L : LP) (x y : Int) : L.bk x y = L.bk y x := by
  unfold LP.bk
  by_cases z : x / L.W = y / L.W ∧ L.ln x = L.ln y
  · rw [if_pos z, if_pos ⟨z.1.symm, z.2.symm⟩]
  · rw [if_neg z, if_neg fun k => z ⟨k.1.symm, k.2.symm⟩]
theorem div_mir {N x W : Int} (hW : 0 < W) (hN : N % W = 0) : (N - 1 - x) / W = N / W - 1 - x / W := by
  obtain ⟨q, rfl⟩ := Int.dvd_of_emod_eq_zero hN
  have h1 := Int.emod_add_mul_ediv x W
  have h2 := Int.emod_nonneg x (show W ≠ 0 by omega)
  have h3 := Int.emod_lt_of_pos x hW
  rw [Int.mul_ediv_cancel_left _ (show W ≠ 0 by omega)]
  have e : W * q - 1 - x = (W - 1 - x % W) + W * (q - 1 - x / W) := by rw [Int.mul_sub, Int.mul_sub]; omega
  rw [e, Int.add_mul_ediv_left _ _ (by omega), Int.ediv_eq_zero_of_lt (by omega) (by omega)]; omega
theorem LP.bk_mir {L : LP} {N x y : Int} (hW : 0 < L.W) (hN : N % L.W = 0) : (L.mir N).bk (N - 1 - x) (N - 1 - y) = L.bk x y := by
  have ln : ∀ z, (L.mir N).ln (N - 1 - z) = L.ln z := fun z => by
    unfold LP.ln LP.mir
    dsimp only
    congr 1
    rw [Int.neg_mul, Int.mul_sub L.al (N - 1) z]; omega
  unfold LP.bk
  rw [ln, ln]
  show (if (N - 1 - x) / L.W = (N - 1 - y) / L.W ∧ L.ln x = L.ln y then _ else _) = _
  rw [div_mir hW hN, div_mir hW hN]
  by_cases z : x / L.W = y / L.W ∧ L.ln x = L.ln y
  · rw [if_pos z, if_pos ⟨by rw [z.1], z.2⟩]
  · rw [if_neg z, if_neg fun k => z ⟨by have := k.1; omega, k.2⟩]
theorem LP.CL_mir {L : LP} {N f c : Int} {m : Nat} (hW : 0 < L.W) (hN : N % L.W = 0) : (L.mir N).CL (N - 1 - lnk f c (m - 1)) c m = L.CL f c m := by
  unfold LP.CL
  by_cases z : m = 0
  · rw [if_pos z, if_pos z]
  rw [if_neg z, if_neg z]
  have e : ∀ k, k < m - 1 → (L.mir N).bk (lnk (N - 1 - lnk f c (m - 1)) c k) (lnk (N - 1 - lnk f c (m - 1)) c (k + 1)) = (fun k => L.bk (lnk f c k) (lnk f c (k + 1))) (m - 1 - 1 - k) := fun k hk => by
    have back : ∀ j, j ≤ m - 1 → lnk (N - 1 - lnk f c (m - 1)) c j = N - 1 - lnk f c (m - 1 - j) := fun j hj => by
      unfold lnk
      rw [show ((m - 1 - j : Nat) : Int) = ((m - 1 : Nat) : Int) - (j : Int) by omega, Int.mul_sub]; omega
    rw [back k (by omega), back (k + 1) (by omega), LP.bk_mir hW hN, L.bk_comm, show m - 1 - (k + 1) = m - 1 - 1 - k by omega, show m - 1 - k = m - 1 - 1 - k + 1 by omega]
  rw [sm_congr e]
  exact congrArg (1 + ·) (sm_rev (fun k => L.bk (lnk f c k) (lnk f c (k + 1))) (m - 1))
theorem cnt_mir {a b c d N : Int} (hc : 0 < c) (h0 : 0 ≤ d) (h1 : d < c) (hab : a ≤ b) : cnt (N - b) (N - a) c ((N - 1 - d) % c) = cnt a b c d ∧ (0 < cnt a b c d → fst (N - b) c ((N - 1 - d) % c) = N - 1 - lnk (fst a c d) c ((cnt a b c d).toNat - 1)) := by
  have k0 := Int.emod_nonneg (N - 1 - d) (show c ≠ 0 by omega)
  have k1 := Int.emod_lt_of_pos (N - 1 - d) hc
  have n0 := cnt_nonneg (d := d) hc hab
  obtain ⟨l1, l2, l3⟩ := lst_facts (b := b) hc h0 h1
  -- the first lane of the mirrored guard
  have ef : fst (N - b) c ((N - 1 - d) % c) = N - 1 - lst b c d := by
    refine mod_uniq (b := N - b) hc ?_ (fst_ge hc) (fst_lt hc) (by omega) (by omega)
    rw [fst_mod hc k0 k1, Int.sub_emod (N - 1) (lst b c d), l1, ← Int.emod_eq_of_lt h0 h1, ← Int.sub_emod, Int.emod_eq_of_lt h0 h1]
  have last : 0 < cnt a b c d → lst b c d = lnk (fst a c d) c ((cnt a b c d).toNat - 1) := fun p => by
    rw [← cnt_last hc h0 h1 hab p]
    unfold lnk
    rw [show (((cnt a b c d).toNat - 1 : Nat) : Int) = cnt a b c d - 1 by omega, Int.mul_comm]
  refine ⟨?_, fun p => by rw [ef, last p]⟩
  refine cnt_unique hc (by omega) n0 fun k hk => ?_
  rw [ef]
  rcases (show cnt a b c d = 0 ∨ 0 < cnt a b c d by omega) with z | p
  · rw [z]
    have := (due_iff hc h0 h1 hab).mpr z
    have f2 := fst_next (m := b) hc h0 h1
    have f3 := (cnt_zero (d := d) hc hab).mp z
    -- the last lane below b lies below a
    have : lst b c d < a := by
      refine Int.not_le.mp fun w => ?_
      obtain ⟨j, hj, e⟩ := lane_ge (a := a) hc h0 h1 l1 w
      have : fst a c d ≤ lst b c d := by have := Int.mul_nonneg (show 0 ≤ c by omega) hj; omega
      omega
    have := Int.mul_nonneg hk (show 0 ≤ c by omega)
    constructor <;> intro w <;> omega
  · have e := cnt_last hc h0 h1 hab p
    have f1 := fst_ge (a := a) (d := d) hc
    have f2 := fst_lt (a := a) (d := d) hc
    constructor
    · intro w
      have : (cnt a b c d - 1 - k) * c ≥ 0 := Int.mul_nonneg (by omega) (by omega)
      rw [Int.sub_mul] at this
      omega
    · intro w
      refine Int.not_le.mp fun w2 => ?_
      have : (k - cnt a b c d) * c ≥ 0 := Int.mul_nonneg (by omega) (by omega)
      rw [Int.sub_mul] at this
      rw [Int.sub_mul] at e
      omega
theorem LP.CG_mir {L : LP} {a b c d N : Int} (hW : 0 < L.W) (hN : N % L.W = 0) (hc : 0 < c) (h0 : 0 ≤ d) (h1 : d < c) (hab : a ≤ b) : (L.mir N).CG (N - b) (N - a) c ((N - 1 - d) % c) = L.CG a b c d := by
  obtain ⟨e1, e2⟩ := cnt_mir (N := N) hc h0 h1 hab
  have n0 := cnt_nonneg (d := d) hc hab
  unfold LP.CG
  rw [e1]
  rcases (show cnt a b c d = 0 ∨ 0 < cnt a b c d by omega) with z | p
  · rw [z]; rfl
  · rw [e2 p]; exact LP.CL_mir hW hN
end Ar

set_option linter.all false
set_option maxRecDepth 10000
/-! lines of far lanes: periods, scaled and moved cells -/
namespace Ar
theorem LP.ln_per {L : LP} {P x : Int} (hS : 0 < L.S) (hP : P % L.S = 0) : L.ln (x + P) = L.ln x + L.al * (P / L.S) := by
  unfold LP.ln
  have e : P = L.S * (P / L.S) := by have := Int.emod_add_mul_ediv P L.S; omega
  have e2 : L.al * (x + P) + L.be = (L.al * x + L.be) + L.S * (L.al * (P / L.S)) := by
    conv => lhs; rw [e, Int.mul_add]
    rw [show L.al * (L.S * (P / L.S)) = L.S * (L.al * (P / L.S)) by rw [← Int.mul_assoc, ← Int.mul_assoc, Int.mul_comm L.al]]
    omega
  rw [e2, Int.add_mul_ediv_left _ _ (by omega)]
theorem LP.bk_per {L : LP} {P x y : Int} (hW : 0 < L.W) (hS : 0 < L.S) (hPW : P % L.W = 0) (hPS : P % L.S = 0) : L.bk (x + P) (y + P) = L.bk x y := by
  have w : ∀ z, (z + P) / L.W = z / L.W + P / L.W := fun z => by
    have e : P = L.W * (P / L.W) := by have := Int.emod_add_mul_ediv P L.W; omega
    conv => lhs; rw [e]
    rw [Int.add_mul_ediv_left _ _ (by omega)]
  unfold LP.bk
  rw [w, w, LP.ln_per hS hPS, LP.ln_per hS hPS]
  by_cases z : x / L.W = y / L.W ∧ L.ln x = L.ln y
  · rw [if_pos z, if_pos ⟨by omega, by omega⟩]
  · rw [if_neg z, if_neg fun h => z ⟨by omega, by omega⟩]
theorem LP.CL_per {L : LP} {P f c : Int} (hW : 0 < L.W) (hS : 0 < L.S) (hPW : P % L.W = 0) (hPS : P % L.S = 0) (m : Nat) : L.CL (f + P) c m = L.CL f c m := by
  have e : ∀ k : Nat, lnk (f + P) c k = lnk f c k + P := fun k => by unfold lnk; omega
  unfold LP.CL
  split
  · rfl
  · congr 1
    exact sm_congr fun k _ => by rw [e, e, LP.bk_per hW hS hPW hPS]
theorem fst_per {a c d P : Int} (hP : P % c = 0) : fst (a + P) c d = fst a c d + P := by
  unfold fst
  have : (d - (a + P)) % c = (d - a) % c := by
    rw [show d - (a + P) = (d - a) - P by omega, Int.sub_emod, hP, Int.sub_zero, Int.emod_emod_of_dvd _ (Int.dvd_refl c)]
  rw [this]; omega
theorem cnt_per {a b c d P : Int} (hP : P % c = 0) : cnt (a + P) (b + P) c d = cnt a b c d := by
  unfold cnt
  rw [fst_per hP]
  congr 1; omega
theorem LP.CG_per {L : LP} {a b c d P : Int} (hW : 0 < L.W) (hS : 0 < L.S) (hPW : P % L.W = 0) (hPS : P % L.S = 0) (hPc : P % c = 0) : L.CG (a + P) (b + P) c d = L.CG a b c d := by
  unfold LP.CG
  rw [fst_per hPc, cnt_per hPc, LP.CL_per hW hS hPW hPS]
theorem LP.CG_many {L : LP} {x c d P : Int} (hW : 0 < L.W) (hS : 0 < L.S) (hP : 0 < P) (hPW : P % L.W = 0) (hPS : P % L.S = 0) (hPc : P % c = 0) (hc : 0 < c) (h0 : 0 ≤ d) (h1 : d < c) (hx : x % L.W = 0) : ∀ n : Nat, (x + P * n) % L.W = 0 ∧ (∀ y, x ≤ y → L.CG (x + P * n) (y + P * n) c d = L.CG x y c d) ∧ L.CG x (x + P * n) c d = n * L.CG x (x + P) c d
  | 0 => by
    refine ⟨by simpa using hx, fun y _ => by simp, ?_⟩
    simp only [Int.natCast_zero, Int.mul_zero, Int.add_zero, Int.zero_mul]
    exact LP.CG_none hc
  | n + 1 => by
    obtain ⟨i1, i2, i3⟩ := LP.CG_many (L := L) (x := x) hW hS hP hPW hPS hPc hc h0 h1 hx n
    have e : ∀ z : Int, z + P * ((n + 1 : Nat) : Int) = (z + P * n) + P := fun z => by
      rw [Int.natCast_add, Int.mul_add]; simp; omega
    have pn : 0 ≤ P * (n : Int) := Int.mul_nonneg (by omega) (by omega)
    refine ⟨?_, fun y hy => ?_, ?_⟩
    · rw [e, Int.add_emod, i1, hPW]; rfl
    · rw [e, e, LP.CG_per hW hS hPW hPS hPc, i2 y hy]
    · rw [e, LP.CG_cut hW hc h0 h1 (x := x + P * n) (by omega) (by omega) i1, i3, show x + P * n + P = (x + P) + P * n by omega, i2 (x + P) (by omega), Int.natCast_add, Int.add_mul]
      simp
/-- as often as the period fits, and the rest -/
theorem LP.CG_far_sum {L : LP} {a b c d P g : Int} (hW : 0 < L.W) (hS : 0 < L.S) (hP : 0 < P) (hPW : P % L.W = 0) (hPS : P % L.S = 0) (hPc : P % c = 0) (hc : 0 < c) (h0 : 0 ≤ d) (h1 : d < c) (hag : a ≤ g) (hgb : g ≤ b) (hg : g = b ∨ g % L.W = 0) :
    L.CG a b c d = L.CG a g c d + (b - g) / P * L.CG g (g + P) c d + L.CG g (g + (b - g) % P) c d := by
  rcases hg with rfl | hg
  · rw [Int.sub_self, Int.zero_ediv, Int.zero_emod, Int.zero_mul, Int.add_zero, Int.add_zero, LP.CG_none hc, Int.add_zero]
  · have m1 := Int.emod_add_mul_ediv (b - g) P
    have m2 := Int.emod_nonneg (b - g) (show P ≠ 0 by omega)
    have m3 : 0 ≤ (b - g) / P := Int.ediv_nonneg (by omega) (by omega)
    obtain ⟨i1, i2, i3⟩ := LP.CG_many (L := L) (x := g) hW hS hP hPW hPS hPc hc h0 h1 hg ((b - g) / P).toNat
    rw [show ((((b - g) / P).toNat : Nat) : Int) = (b - g) / P by omega] at i1 i2 i3
    have pn : 0 ≤ P * ((b - g) / P) := Int.mul_nonneg (by omega) (by omega)
    rw [LP.CG_cut hW hc h0 h1 hag hgb hg, LP.CG_cut (a := g) (x := g + P * ((b - g) / P)) (b := b) hW hc h0 h1 (by omega) (by omega) i1, i3]
    have := i2 (g + (b - g) % P) (by omega)
    rw [show g + (b - g) % P + P * ((b - g) / P) = b by omega] at this
    rw [this]; omega
/-- so many times greater cells and lines -/
theorem LP.CG_scale {W S al be t a b c d : Int} (hS : 0 < S) (ht : 0 < t) : LP.CG ⟨W, S * t, al * t, be * t⟩ a b c d = LP.CG ⟨W, S, al, be⟩ a b c d := by
  have ln : ∀ x, LP.ln ⟨W, S * t, al * t, be * t⟩ x = LP.ln ⟨W, S, al, be⟩ x := fun x => by
    unfold LP.ln
    dsimp only
    rw [show al * t * x + be * t = (al * x + be) * t by rw [Int.add_mul, Int.mul_assoc, Int.mul_comm t, Int.mul_assoc], Int.mul_ediv_mul_of_pos_left _ _ ht]
  unfold LP.CG LP.CL
  split
  · rfl
  · congr 1
    refine sm_congr fun k _ => ?_
    unfold LP.bk
    rw [ln, ln]
theorem LP.CG_move {W S al be t a b c d : Int} (hS : 0 < S) : LP.CG ⟨W, S, al, be + S * t⟩ a b c d = LP.CG ⟨W, S, al, be⟩ a b c d := by
  have ln : ∀ x, LP.ln ⟨W, S, al, be + S * t⟩ x = LP.ln ⟨W, S, al, be⟩ x + t := fun x => by
    unfold LP.ln
    dsimp only
    rw [show al * x + (be + S * t) = (al * x + be) + S * t by omega, Int.add_mul_ediv_left _ _ (by omega)]
  unfold LP.CG LP.CL
  split
  · rfl
  · congr 1
    refine sm_congr fun k _ => ?_
    unfold LP.bk
    rw [ln, ln]
    by_cases z : lnk (fst a c d) c k / W = lnk (fst a c d) c (k + 1) / W ∧ LP.ln ⟨W, S, al, be⟩ (lnk (fst a c d) c k) = LP.ln ⟨W, S, al, be⟩ (lnk (fst a c d) c (k + 1))
    · rw [if_pos z, if_pos ⟨z.1, by omega⟩]
    · rw [if_neg z, if_neg fun h => z ⟨h.1, by omega⟩]
end Ar

set_option linter.all false
set_option maxRecDepth 100000
set_option maxHeartbeats 2000000
/-! the waves of a guard by the numbers of their lanes -/
namespace Law
open PySem L2 DL Ar
theorem ci_lo {a b c d w : Int} {n : Nat} (hc : 0 < c) (hab : a ≤ b) (hw : 0 < w) (h : w * n + w ≤ a) : ci a b c d w n = 0 := by
  rw [ci_eq hc hab hw]
  have e1 : bw a b w n = a := by unfold bw; rw [if_pos (by omega)]
  have e2 : bw a b w (n + 1) = a := by unfold bw; rw [w_succ, if_pos h]
  rw [e1, e2, cnt_self hc]
theorem ci_hi {a b c d w : Int} {n : Nat} (hc : 0 < c) (hab : a ≤ b) (hw : 0 < w) (h : b ≤ w * n) : ci a b c d w n = 0 := by
  rw [ci_eq hc hab hw, bw_end hab h, bw_end hab (by rw [w_succ]; omega), cnt_self hc]
theorem ci_mid {a b c d w : Int} {n : Nat} (hc : 0 < c) (hab : a ≤ b) (hw : 0 < w) (h1 : a ≤ w * n) (h2 : w * n + w ≤ b) : ci a b c d w n = cnt (w * n) (w * n + w) c d := by
  rw [ci_eq hc hab hw]
  have e1 : bw a b w n = w * n := by unfold bw; (repeat' split) <;> omega
  have e2 : bw a b w (n + 1) = w * n + w := by unfold bw; rw [w_succ]; (repeat' split) <;> omega
  rw [e1, e2]
theorem ci_one {a b c d w : Int} {n : Nat} (hc : 0 < c) (hab : a ≤ b) (hw : 0 < w) (h : w ≤ c) : 0 ≤ ci a b c d w n ∧ ci a b c d w n ≤ 1 := by
  obtain ⟨c0, c1, c2⟩ := ci_le (n := n) (d := d) hc hab hw
  refine ⟨c0, ?_⟩
  rcases Int.lt_or_le (bw a b w n) (bw a b w (n + 1)) with z | z
  · obtain ⟨i1, i2⟩ := bw_in hab hw z
    rcases Int.lt_or_le 1 (ci a b c d w n) with k | k
    · have : 1 * c ≤ (ci a b c d w n - 1) * c := Int.mul_le_mul_of_nonneg_right (by omega) (by omega)
      omega
    · exact k
  · omega
theorem ci_w {a b c d w : Int} {n : Nat} (hc : 0 < c) (hab : a ≤ b) (hw : 0 < w) : 0 ≤ ci a b c d w n ∧ ci a b c d w n ≤ w := by
  obtain ⟨c0, c1, c2⟩ := ci_le (n := n) (d := d) hc hab hw
  refine ⟨c0, ?_⟩
  rcases Int.lt_or_le (bw a b w n) (bw a b w (n + 1)) with z | z
  · obtain ⟨i1, i2⟩ := bw_in hab hw z
    omega
  · omega
theorem sm_ci {a b c d w : Int} (hc : 0 < c) (h0 : 0 ≤ d) (h1 : d < c) (ha : 0 ≤ a) (hab : a ≤ b) (hw : 0 < w) : ∀ n, sm (fun i => ci a b c d w i) n = cnt a (bw a b w n) c d
  | 0 => by
    unfold bw
    rw [show w * ((0 : Nat) : Int) = 0 by simp, if_pos ha, cnt_self hc]; rfl
  | n + 1 => by
    show sm _ n + ci a b c d w n = _
    rw [sm_ci hc h0 h1 ha hab hw n, ci_eq hc hab hw]
    obtain ⟨f1, f2, f3⟩ := bw_facts (n := n) hab hw
    exact cnt_cut hc h0 h1 f1 f2
theorem sm_zero {F : Nat → Int} {n : Nat} (h : ∀ k, k < n → F k = 0) : sm F n = 0 := by
  rw [sm_congr (G := fun _ => 0) h, sm_const, Int.zero_mul]
theorem turns_lt {P n p k : Nat} (hP : 0 < P) (h : k < turns P n p) : p + P * k < n := by
  unfold turns at h
  have := (Nat.le_div_iff_mul_le hP).mp (show k + 1 ≤ (n + P - 1 - p) / P from h)
  rw [Nat.add_mul, Nat.one_mul, Nat.mul_comm k P] at this
  omega
theorem turns_none {P n p : Nat} (hP : 0 < P) (h : n ≤ p) : turns P n p = 0 := by
  unfold turns; exact Nat.div_eq_of_lt (by omega)
/-- a sum over waves: the two ends, and what comes again between them -/
theorem wave_sum {a b c d w : Int} {φ : Int → Int} {f t P n : Nat} (φ0 : φ 0 = 0) (hc : 0 < c) (hab : a ≤ b) (hw : 0 < w) (hP : P = per w.toNat c.toNat) (hf : a / w = f) (hl : (b - 1) / w = ((f + t + 1 : Nat) : Int)) (hn : b ≤ w * n) :
    sm (fun i => φ (ci a b c d w i)) n = φ (ci a b c d w f) + φ (ci a b c d w (f + t + 1)) + sm (fun p => φ (ci a b c d w (f + 1 + p)) * (turns P t p : Nat)) (min P t) := by
  have P0 : 0 < P := by rw [hP]; exact per_pos (by omega)
  obtain ⟨f1, f2⟩ := (show w * (f : Int) ≤ a ∧ a < w * f + w by
    have m1 := Int.emod_add_mul_ediv a w
    have m2 := Int.emod_nonneg a (show w ≠ 0 by omega)
    have m3 := Int.emod_lt_of_pos a hw
    rw [hf] at m1; omega)
  obtain ⟨l1, l2⟩ := (show w * ((f + t + 1 : Nat) : Int) ≤ b - 1 ∧ b - 1 < w * ((f + t + 1 : Nat) : Int) + w by
    have m1 := Int.emod_add_mul_ediv (b - 1) w
    have m2 := Int.emod_nonneg (b - 1) (show w ≠ 0 by omega)
    have m3 := Int.emod_lt_of_pos (b - 1) hw
    rw [hl] at m1; omega)
  have mono : ∀ {i j : Nat}, i ≤ j → w * (i : Int) ≤ w * j := fun {i j} h => Int.mul_le_mul_of_nonneg_left (by omega) (by omega)
  obtain ⟨k, rfl⟩ : ∃ k, n = f + (1 + t + 1 + k) := by
    rcases Nat.lt_or_ge n (f + t + 1 + 1) with z | z
    · have := mono (show n ≤ f + t + 1 by omega)
      omega
    · exact ⟨n - (f + t + 1 + 1), by omega⟩
  rw [sm_add, sm_zero (n := f) fun i hi => ?z1]
  case z1 =>
    rw [ci_lo hc hab hw (by have := mono (show i + 1 ≤ f from hi); rw [w_succ] at this; omega), φ0]
  rw [sm_add, sm_zero (n := k) fun i hi => ?z2]
  case z2 =>
    rw [ci_hi hc hab hw (by have := mono (show f + t + 1 + 1 ≤ f + (1 + t + 1 + i) by omega); rw [w_succ (n := f + t + 1)] at this; omega), φ0]
  have e1 : sm (fun i => φ (ci a b c d w (f + i))) (1 + t + 1) = sm (fun i => φ (ci a b c d w (f + i))) (1 + t) + φ (ci a b c d w (f + (1 + t))) := rfl
  rw [e1, sm_add]
  have e2 : sm (fun i => φ (ci a b c d w (f + i))) 1 = 0 + φ (ci a b c d w (f + 0)) := rfl
  rw [e2, regroup P0]
  have e3 : sm (fun p => sm (fun j => φ (ci a b c d w (f + (1 + (p + P * j))))) (turns P t p)) P = sm (fun p => φ (ci a b c d w (f + 1 + p)) * (turns P t p : Nat)) P := by
    refine sm_congr fun p hp => ?_
    rw [← sm_const]
    refine sm_congr fun j hj => ?_
    have lt := turns_lt P0 hj
    have g1 := mono (show f + 1 ≤ f + 1 + p by omega)
    have g2 := mono (show f + 1 + p + 1 ≤ f + t + 1 by have : p ≤ p + P * j := Nat.le_add_right _ _; omega)
    have g3 := mono (show f + 1 ≤ f + (1 + (p + P * j)) by omega)
    have g4 := mono (show f + (1 + (p + P * j)) + 1 ≤ f + t + 1 by omega)
    rw [w_succ] at g1 g2 g3 g4
    rw [ci_mid hc hab hw (by omega) (by omega), ci_mid hc hab hw (by omega) (by omega)]
    obtain ⟨s, hs⟩ := per_mul (c := w.toNat) (W := c.toNat) (by omega)
    have hs' : w * (P : Int) = c * (s : Int) := by
      rw [hP]
      have := congrArg (fun x : Nat => (x : Int)) hs
      rw [Int.natCast_mul, Int.natCast_mul, Int.toNat_of_nonneg (by omega), Int.toNat_of_nonneg (by omega)] at this
      exact this
    have e : w * ((f + (1 + (p + P * j)) : Nat) : Int) = w * ((f + 1 + p : Nat) : Int) + c * ((s : Int) * j) := by
      rw [show ((f + (1 + (p + P * j)) : Nat) : Int) = ((f + 1 + p : Nat) : Int) + (P : Int) * j by rw [← Int.natCast_mul]; omega, Int.mul_add, ← Int.mul_assoc, hs', Int.mul_assoc]
    rw [e, show w * ((f + 1 + p : Nat) : Int) + c * ((s : Int) * j) + w = w * ((f + 1 + p : Nat) : Int) + w + c * ((s : Int) * j) by omega, cnt_per (Int.mul_emod_right _ _)]
  rw [e3, sm_min _ t (fun p hp => by rw [turns_none P0 hp]; simp) P, show f + (1 + t) = f + t + 1 by omega, Nat.add_zero]
  omega
theorem wave_sum1 {a b c d w : Int} {φ : Int → Int} {f n : Nat} (φ0 : φ 0 = 0) (hc : 0 < c) (hab : a ≤ b) (hw : 0 < w) (hf : a / w = f) (hl : (b - 1) / w = f) (hn : b ≤ w * n) (h : a < b) :
    sm (fun i => φ (ci a b c d w i)) n = φ (ci a b c d w f) := by
  obtain ⟨f1, f2⟩ := (show w * (f : Int) ≤ a ∧ a < w * f + w by
    have m1 := Int.emod_add_mul_ediv a w
    have m2 := Int.emod_nonneg a (show w ≠ 0 by omega)
    have m3 := Int.emod_lt_of_pos a hw
    rw [hf] at m1; omega)
  obtain ⟨l1, l2⟩ := (show w * (f : Int) ≤ b - 1 ∧ b - 1 < w * (f : Int) + w by
    have m1 := Int.emod_add_mul_ediv (b - 1) w
    have m2 := Int.emod_nonneg (b - 1) (show w ≠ 0 by omega)
    have m3 := Int.emod_lt_of_pos (b - 1) hw
    rw [hl] at m1; omega)
  have mono : ∀ {i j : Nat}, i ≤ j → w * (i : Int) ≤ w * j := fun {i j} h => Int.mul_le_mul_of_nonneg_left (by omega) (by omega)
  obtain ⟨k, rfl⟩ : ∃ k, n = f + (1 + k) := by
    rcases Nat.lt_or_ge n (f + 1) with z | z
    · have := mono (show n ≤ f by omega)
      omega
    · exact ⟨n - (f + 1), by omega⟩
  rw [sm_add, sm_zero (n := f) fun i hi => ?z1]
  case z1 =>
    rw [ci_lo hc hab hw (by have := mono (show i + 1 ≤ f from hi); rw [w_succ] at this; omega), φ0]
  rw [sm_add, sm_zero (n := k) fun i hi => ?z2]
  case z2 =>
    rw [ci_hi hc hab hw (by have := mono (show f + 1 ≤ f + (1 + i) by omega); rw [w_succ (n := f)] at this; omega), φ0]
  have e2 : sm (fun i => φ (ci a b c d w (f + i))) 1 = 0 + φ (ci a b c d w (f + 0)) := rfl
  rw [e2, Nat.add_zero]; omega
/-- what a list of (lanes, waves) tells of the waves of a guard -/
structure WB (a b c d w : Int) (zs : List (Int × Int)) : Prop where
  len : zs.length ≤ 100
  nn : ∀ z ∈ zs, (0 ≤ z.1 ∧ z.1 ≤ 32) ∧ 0 ≤ z.2 ∧ z.2 ≤ b
  sum : ∀ φ : Int → Int, φ 0 = 0 → ∀ n : Nat, b ≤ w * n → (zs.map fun z => φ z.1 * z.2).sum = sm (fun i => φ (ci a b c d w i)) n
  up : ∀ z ∈ zs, 0 < z.2 → ∃ i : Nat, ci a b c d w i = z.1
  low : ∀ i : Nat, 0 < ci a b c d w i → ∃ z ∈ zs, 0 < z.2 ∧ z.1 = ci a b c d w i
end Law

set_option linter.all false
set_option maxRecDepth 100000
set_option maxHeartbeats 2000000
namespace Law
open PySem L2 DL Ar
/-- how many of the cells are in a bank -/
def cz (B key : Int) (l : List Int) : Int := ((l.filter fun x => decide (x % B = key)).length : Nat)
theorem cz_snoc (B key : Int) (l : List Int) (x : Int) : cz B key (l ++ [x]) = cz B key l + if x % B = key then 1 else 0 := by
  unfold cz
  rw [List.filter_append, List.length_append]
  by_cases z : x % B = key
  · rw [if_pos z, List.filter_cons_of_pos (by exact decide_eq_true z)]; simp
  · rw [if_neg z, List.filter_cons_of_neg (by rw [decide_eq_false z]; decide)]; simp
theorem cz_nonneg (B key : Int) (l : List Int) : 0 ≤ cz B key l := by unfold cz; omega
def ik (kv : Int × Int) : Key × D := (.inl kv.1, .int kv.2)
structure CK (B : Int) (l : List Int) (kvs : List (Int × Int)) : Prop where
  val : ∀ kv ∈ kvs, kv.2 = cz B kv.1 l
  cov : ∀ key, cz B key l ≠ 0 → ∃ kv ∈ kvs, kv.1 = key
  len : kvs.length ≤ l.length
theorem CK.get {B : Int} {l : List Int} {kvs : List (Int × Int)} (h : CK B l kvs) (k : Int) : (valD (kvs.map ik) (.inl k)).getD (.int 0) = .int (cz B k l) := by
  unfold valD
  rw [List.find?_map]
  cases e : kvs.find? ((fun kv => decide (kv.1 = Sum.inl k)) ∘ ik) with
  | none =>
    show D.int 0 = _
    rcases Decidable.em (cz B k l = 0) with z | z
    · rw [z]
    · obtain ⟨kv, h1, h2⟩ := h.cov k z
      have := List.find?_eq_none.mp e kv h1
      simp [ik, h2] at this
  | some kv =>
    have h1 := List.mem_of_find?_eq_some e
    have h3 := List.find?_some (p := (fun kv => decide (kv.1 = Sum.inl k)) ∘ ik) e
    have h2 : kv.1 = k := Sum.inl.inj (of_decide_eq_true (show decide ((ik kv).1 = Sum.inl k) = true from h3))
    show D.int kv.2 = _
    rw [h.val kv h1, h2]
theorem CK.mem {B : Int} {l : List Int} {kvs : List (Int × Int)} (h : CK B l kvs) {kv : Int × Int} (hm : kv ∈ kvs) : valD (kvs.map ik) (.inl kv.1) = some (.int (cz B kv.1 l)) := by
  have g := h.get kv.1
  unfold valD at g ⊢
  rw [List.find?_map] at g ⊢
  cases e : kvs.find? ((fun x => decide (x.1 = Sum.inl kv.1)) ∘ ik) with
  | none =>
    have := List.find?_eq_none.mp e kv hm
    simp [ik] at this
  | some x =>
    rw [e] at g
    exact congrArg some g
theorem CK.put {B : Int} {l : List Int} {kvs : List (Int × Int)} (h : CK B l kvs) (x : Int) : ∃ kvs' : List (Int × Int), putKD (kvs.map ik) (.inl (x % B)) (.int (cz B (x % B) l + 1)) = kvs'.map ik ∧ CK B (l ++ [x]) kvs' := by
  have new : cz B (x % B) (l ++ [x]) = cz B (x % B) l + 1 := by rw [cz_snoc, if_pos rfl]
  have old : ∀ k, k ≠ x % B → cz B k (l ++ [x]) = cz B k l := fun k hk => by rw [cz_snoc, if_neg fun z => hk z.symm, Int.add_zero]
  unfold putKD
  split
  · rename_i hany
    refine ⟨kvs.map fun kv => if kv.1 = x % B then (kv.1, cz B (x % B) l + 1) else kv, ?_, ⟨fun kv hkv => ?_, fun key hz => ?_, ?_⟩⟩
    · rw [List.map_map, List.map_map]
      refine List.map_congr_left fun kv _ => ?_
      show (if (ik kv).1 = Sum.inl (x % B) then ((ik kv).1, D.int (cz B (x % B) l + 1)) else ik kv) = ik (if kv.1 = x % B then (kv.1, cz B (x % B) l + 1) else kv)
      by_cases z : kv.1 = x % B
      · rw [if_pos z, if_pos (by show (Sum.inl kv.1 : Key) = Sum.inl (x % B); rw [z])]; rfl
      · rw [if_neg z, if_neg (by show ¬ (Sum.inl kv.1 : Key) = Sum.inl (x % B); exact fun h => z (Sum.inl.inj h))]
    · obtain ⟨y, hy, rfl⟩ := List.mem_map.mp hkv
      by_cases z : y.1 = x % B
      · rw [if_pos z]; dsimp only; rw [z, new]
      · rw [if_neg z, old _ z]; exact h.val y hy
    · by_cases z : key = x % B
      · obtain ⟨y, hy, hy2⟩ := List.any_eq_true.mp hany
        obtain ⟨kv, hkv, rfl⟩ := List.mem_map.mp hy
        have e : kv.1 = x % B := Sum.inl.inj (of_decide_eq_true hy2)
        refine ⟨_, List.mem_map.mpr ⟨kv, hkv, rfl⟩, ?_⟩
        rw [if_pos e]; exact e.trans z.symm
      · rw [old key z] at hz
        obtain ⟨kv, hkv, e⟩ := h.cov key hz
        refine ⟨_, List.mem_map.mpr ⟨kv, hkv, rfl⟩, ?_⟩
        rw [if_neg (by rw [e]; exact z)]; exact e
    · rw [List.length_map, List.length_append]; have := h.len; omega
  · rename_i hany
    refine ⟨kvs ++ [(x % B, cz B (x % B) l + 1)], by rw [List.map_append]; rfl, ⟨fun kv hkv => ?_, fun key hz => ?_, ?_⟩⟩
    · rcases List.mem_append.mp hkv with z | z
      · have ne : kv.1 ≠ x % B := fun e => hany (List.any_eq_true.mpr ⟨ik kv, List.mem_map.mpr ⟨kv, z, rfl⟩, decide_eq_true (by show (Sum.inl kv.1 : Key) = _; rw [e])⟩)
        rw [old _ ne]; exact h.val kv z
      · obtain rfl := List.mem_singleton.mp z
        exact new.symm
    · by_cases z : key = x % B
      · exact ⟨_, List.mem_append_right _ (List.mem_singleton.mpr rfl), z.symm⟩
      · rw [old key z] at hz
        obtain ⟨kv, hkv, e⟩ := h.cov key hz
        exact ⟨kv, List.mem_append_left _ hkv, e⟩
    · rw [List.length_append, List.length_append]; have := h.len; simp; omega
/-- the greatest number of different cells in one bank -/
def Deg (B : Int) (ns : List Int) (r : Int) : Prop := ∃ ms : List Int, ms.Pairwise (· < ·) ∧ (∀ k, k ∈ ms ↔ k ∈ ns) ∧ (∀ key, cz B key ms ≤ r) ∧ (r = 0 ∨ ∃ key, cz B key ms = r)
def c__law_degree (A : Cls) : DSp := fun ds μ q e => ∃ (ns : List Int) (B : Int), ds = [.lst (ns.map D.int), .int B] ∧ ns.length < 64 ∧ 0 < B ∧ ∀ r : Int, Deg B ns r → 0 ≤ r → r ≤ 64 → q (.int r) μ
theorem len__law_degree {A : Cls} : ∀ ds μ q e, c__law_degree A ds μ q e → ds.length = 2 := fun ds μ q e ⟨_, _, h, _⟩ => by rw [h]; rfl
theorem asc_len : ∀ {ms ns : List Int}, ms.Pairwise (· < ·) → (∀ k, k ∈ ms ↔ k ∈ ns) → ms.length ≤ ns.length := fun {ms ns} h hm => by
  refine nodup_le2 (l := ms) (h.imp fun {a b} z => ?_) fun x hx => (hm x).mp hx
  omega
theorem cz_le (B key : Int) (l : List Int) : cz B key l ≤ (l.length : Nat) := by
  unfold cz
  have := List.length_filter_le (fun x => decide (x % B = key)) l
  omega
end Law

set_option linter.all false
set_option maxRecDepth 10000
/-! the banks of neighbouring cells come again -/
namespace Ar
/-- after so many lanes the banks come again -/
def bper (v : Int) (B : Nat) : Nat := B / Nat.gcd v.natAbs B
theorem bper_pos {v : Int} {B : Nat} (hB : 0 < B) : 0 < bper v B := Nat.div_pos (Nat.le_of_dvd hB (Nat.gcd_dvd_right _ _)) (Nat.gcd_pos_of_pos_right _ hB)
theorem bper_dvd {v : Int} {B : Nat} (hB : 0 < B) (j : Nat) : B ∣ v.natAbs * j ↔ bper v B ∣ j := by
  unfold bper
  generalize v.natAbs = w
  have g0 : 0 < Nat.gcd w B := Nat.gcd_pos_of_pos_right _ hB
  have e1 := Nat.mul_div_cancel' (Nat.gcd_dvd_right w B)
  have e2 := Nat.mul_div_cancel' (Nat.gcd_dvd_left w B)
  have cop : Nat.Coprime (B / Nat.gcd w B) (w / Nat.gcd w B) := (Nat.coprime_div_gcd_div_gcd g0).symm
  constructor
  · intro h
    have h2 : Nat.gcd w B * (B / Nat.gcd w B) ∣ Nat.gcd w B * ((w / Nat.gcd w B) * j) := by
      rw [e1, ← Nat.mul_assoc, e2]; exact h
    exact cop.dvd_of_dvd_mul_left (Nat.dvd_of_mul_dvd_mul_left g0 h2)
  · intro h
    have : Nat.gcd w B * (B / Nat.gcd w B) ∣ Nat.gcd w B * ((w / Nat.gcd w B) * j) := Nat.mul_dvd_mul_left _ (Nat.dvd_trans h (Nat.dvd_mul_left _ _))
    rw [e1, ← Nat.mul_assoc, e2] at this
    exact this
theorem bank_eq {u v : Int} {B : Nat} (hB : 0 < B) {i j : Nat} (h : i ≤ j) : (u + v * (i : Int)) % (B : Int) = (u + v * (j : Int)) % (B : Int) ↔ bper v B ∣ (j - i) := by
  rw [← bper_dvd hB]
  have e : u + v * (j : Int) - (u + v * (i : Int)) = v * ((j - i : Nat) : Int) := by
    rw [Int.natCast_sub h, Int.mul_sub]; omega
  have d : ((B : Int) ∣ v * ((j - i : Nat) : Int)) ↔ B ∣ v.natAbs * (j - i) := by
    rw [← Int.natAbs_dvd_natAbs, Int.natAbs_mul, Int.natAbs_natCast, Int.natAbs_natCast]
  rw [← d, ← e]
  constructor
  · intro h
    exact Int.dvd_of_emod_eq_zero (by rw [Int.sub_emod, h, Int.sub_self, Int.zero_emod])
  · intro h
    exact ((Int.emod_eq_emod_iff_emod_sub_eq_zero).mpr (Int.emod_eq_zero_of_dvd h)).symm
/-- how many of m neighbours are in a bank -/
def inB (u v : Int) (B : Nat) (r : Int) : Nat → Nat
  | 0 => 0
  | m + 1 => inB u v B r m + if (u + v * (m : Int)) % (B : Int) = r then 1 else 0
theorem bank_mod {u v : Int} {B : Nat} (hB : 0 < B) (k : Nat) : (u + v * (k : Int)) % (B : Int) = (u + v * ((k % bper v B : Nat) : Int)) % (B : Int) := by
  refine ((bank_eq hB (Nat.mod_le k _)).mpr ?_).symm
  exact ⟨k / bper v B, by have := Nat.mod_add_div k (bper v B); omega⟩
theorem inB_turns {u v : Int} {B : Nat} (hB : 0 < B) {k0 : Nat} (h0 : k0 < bper v B) : ∀ m, inB u v B ((u + v * (k0 : Int)) % (B : Int)) m = turns (bper v B) m k0
  | 0 => by
    unfold turns
    exact (Nat.div_eq_of_lt (by omega)).symm
  | m + 1 => by
    have ih := inB_turns (u := u) (v := v) hB h0 m
    show inB u v B _ m + _ = _
    rw [ih, turns_succ (bper_pos hB) h0]
    congr 1
    have iff : (u + v * (m : Int)) % (B : Int) = (u + v * (k0 : Int)) % (B : Int) ↔ m % bper v B = k0 := by
      rw [bank_mod hB m]
      have hl := Nat.mod_lt m (bper_pos (v := v) hB)
      constructor
      · intro h
        rcases Nat.le_total (m % bper v B) k0 with z | z
        · have := Nat.eq_zero_of_dvd_of_lt ((bank_eq hB z).mp h) (by omega)
          omega
        · have := Nat.eq_zero_of_dvd_of_lt ((bank_eq hB z).mp h.symm) (by omega)
          omega
      · intro h; rw [h]
    by_cases z : m % bper v B = k0
    · rw [if_pos z, if_pos (iff.mpr z)]
    · rw [if_neg z, if_neg fun h => z (iff.mp h)]
theorem inB_none {u v : Int} {B : Nat} (hB : 0 < B) {r : Int} (h : ∀ k0, k0 < bper v B → (u + v * (k0 : Int)) % (B : Int) ≠ r) : ∀ m, inB u v B r m = 0
  | 0 => rfl
  | m + 1 => by
    show inB u v B r m + _ = 0
    rw [inB_none hB h m, if_neg]
    intro z
    rw [bank_mod hB m] at z
    exact h _ (Nat.mod_lt m (bper_pos hB)) z
/-- the fullest bank -/
theorem inB_le {u v : Int} {B : Nat} (hB : 0 < B) (r : Int) (m : Nat) : inB u v B r m ≤ (m + bper v B - 1) / bper v B := by
  by_cases h : ∃ k0, k0 < bper v B ∧ (u + v * (k0 : Int)) % (B : Int) = r
  · obtain ⟨k0, h0, rfl⟩ := h
    rw [inB_turns hB h0]
    unfold turns
    exact Nat.div_le_div_right (by omega)
  · rw [inB_none hB fun k0 h0 z => h ⟨k0, h0, z⟩]
    exact Nat.zero_le _
theorem inB_max {u v : Int} {B : Nat} (hB : 0 < B) (m : Nat) : inB u v B (u % (B : Int)) m = (m + bper v B - 1) / bper v B := by
  have := inB_turns (u := u) (v := v) hB (k0 := 0) (bper_pos hB) m
  simp only [Int.natCast_zero, Int.mul_zero, Int.add_zero] at this
  rw [this]
  unfold turns
  rfl
end Ar

set_option linter.all false
set_option maxRecDepth 10000
/-! the lanes by waves -/
namespace Ar
def wvk (W f c : Int) (k : Nat) : Int := lnk f c k / W
theorem wvk_le {W f c : Int} (hW : 0 < W) (hc : 0 < c) {i j : Nat} (h : i ≤ j) : wvk W f c i ≤ wvk W f c j := by
  unfold wvk lnk
  refine Int.ediv_le_ediv hW ?_
  have := Int.mul_le_mul_of_nonneg_left (show (i : Int) ≤ (j : Int) by omega) (show 0 ≤ c by omega)
  omega
theorem lnk_lnk (f c : Int) (s j : Nat) : lnk (lnk f c s) c j = lnk f c (s + j) := by
  unfold lnk; rw [Int.natCast_add, Int.mul_add]; omega
structure GOK (L : LP) (f c : Int) (n : Nat) (gs : List (Nat × Nat)) : Prop where
  pw : gs.Pairwise fun p q => wvk L.W f c p.1 < wvk L.W f c q.1
  one : ∀ p ∈ gs, 0 < p.2 ∧ p.1 + p.2 ≤ n ∧ ∀ j, j < p.2 → wvk L.W f c (p.1 + j) = wvk L.W f c p.1
  last : (n = 0 ∧ gs = []) ∨ ∃ r s l, gs = r ++ [(s, l)] ∧ s + l = n
  sum : (gs.map fun p => L.CL (lnk f c p.1) c p.2).sum = L.CL f c n
  len : gs.length ≤ n
theorem GOK.zero (L : LP) (f c : Int) : GOK L f c 0 [] := ⟨List.Pairwise.nil, (fun _ h => nomatch h), .inl ⟨rfl, rfl⟩, rfl, Nat.le_refl _⟩
theorem LP.CL_one (L : LP) (f c : Int) : L.CL f c 1 = 1 := by
  unfold LP.CL
  rw [if_neg (by decide)]
  rfl
theorem LP.CL_next (L : LP) (f c : Int) {n : Nat} (h : 0 < n) : L.CL f c (n + 1) = L.CL f c n + L.bk (lnk f c (n - 1)) (lnk f c n) := by
  unfold LP.CL
  rw [if_neg (by omega), if_neg (by omega)]
  obtain ⟨m, rfl⟩ : ∃ m, n = m + 1 := ⟨n - 1, by omega⟩
  show 1 + (sm _ m + _) = 1 + sm _ m + _
  simp only [Nat.add_sub_cancel]
  omega
theorem GOK.step {L : LP} {f c : Int} {n : Nat} {gs : List (Nat × Nat)} (hW : 0 < L.W) (hc : 0 < c) (h : GOK L f c n gs) :
    (∃ r s l, gs = r ++ [(s, l)] ∧ s + l = n ∧ wvk L.W f c s = wvk L.W f c n ∧ GOK L f c (n + 1) (r ++ [(s, l + 1)])) ∨ ((∀ p ∈ gs, wvk L.W f c p.1 ≠ wvk L.W f c n) ∧ GOK L f c (n + 1) (gs ++ [(n, 1)])) := by
  rcases h.last with ⟨rfl, rfl⟩ | ⟨r, s, l, rfl, hsl⟩
  · refine .inr ⟨fun p hp => (nomatch hp), ⟨by simp, fun p hp => ?_, .inr ⟨[], 0, 1, rfl, rfl⟩, ?_, by simp⟩⟩
    · obtain rfl := List.mem_singleton.mp hp
      exact ⟨by decide, by decide, fun j hj => by
        have hj : j < 1 := hj
        have : j = 0 := by omega
        subst this; rfl⟩
    · simp only [List.nil_append, List.map_cons, List.map_nil, List.sum_cons, List.sum_nil]
      rw [LP.CL_one, LP.CL_one]; rfl
  · obtain ⟨l0, _, l1⟩ := h.one (s, l) (by simp)
    dsimp only at l0 l1
    obtain ⟨p1, p2, p3⟩ := List.pairwise_append.mp h.pw
    have hs := h.sum
    rw [List.map_append, List.sum_append] at hs
    simp only [List.map_cons, List.map_nil, List.sum_cons, List.sum_nil, Int.add_zero] at hs
    have hlen := h.len
    rw [List.length_append] at hlen
    have hlast : wvk L.W f c (n - 1) = wvk L.W f c s := by
      have := l1 (l - 1) (by omega)
      rw [show s + (l - 1) = n - 1 by omega] at this
      exact this
    by_cases z : wvk L.W f c s = wvk L.W f c n
    · refine .inl ⟨r, s, l, rfl, hsl, z, ⟨?_, fun p hp => ?_, .inr ⟨r, s, l + 1, rfl, by omega⟩, ?_, by rw [List.length_append]; simp at hlen ⊢; omega⟩⟩
      · refine List.pairwise_append.mpr ⟨p1, by simp, fun a ha b hb => ?_⟩
        obtain rfl := List.mem_singleton.mp hb
        exact p3 a ha (s, l) (by simp)
      · rcases List.mem_append.mp hp with hp | hp
        · obtain ⟨a1, a2, a3⟩ := h.one p (List.mem_append_left _ hp)
          exact ⟨a1, by omega, a3⟩
        · obtain rfl := List.mem_singleton.mp hp
          refine ⟨Nat.succ_pos _, by omega, fun j hj => ?_⟩
          have hj : j < l + 1 := hj
          show wvk L.W f c (s + j) = wvk L.W f c s
          rcases Nat.lt_or_ge j l with y | y
          · exact l1 j y
          · rw [show s + j = n by omega]; exact z.symm
      · rw [List.map_append, List.sum_append]
        simp only [List.map_cons, List.map_nil, List.sum_cons, List.sum_nil, Int.add_zero]
        rw [LP.CL_next L _ _ l0, LP.CL_next L f c (show 0 < n by omega), lnk_lnk, lnk_lnk, ← hs, show s + (l - 1) = n - 1 by omega, hsl]
        omega
    · have mono := wvk_le (W := L.W) (f := f) (c := c) hW hc (show s ≤ n by omega)
      refine .inr ⟨fun p hp => ?_, ⟨?_, fun p hp => ?_, .inr ⟨_, n, 1, rfl, rfl⟩, ?_, by rw [List.length_append, List.length_append]; simp at hlen ⊢; omega⟩⟩
      · rcases List.mem_append.mp hp with hp | hp
        · have := p3 p hp (s, l) (by simp)
          dsimp only at this
          omega
        · obtain rfl := List.mem_singleton.mp hp
          exact z
      · refine List.pairwise_append.mpr ⟨h.pw, by simp, fun a ha b hb => ?_⟩
        obtain rfl := List.mem_singleton.mp hb
        dsimp only
        rcases List.mem_append.mp ha with hp | hp
        · have := p3 a hp (s, l) (by simp)
          dsimp only at this
          omega
        · obtain rfl := List.mem_singleton.mp hp
          dsimp only
          omega
      · rcases List.mem_append.mp hp with hp | hp
        · obtain ⟨a1, a2, a3⟩ := h.one p hp
          exact ⟨a1, by omega, a3⟩
        · obtain rfl := List.mem_singleton.mp hp
          refine ⟨Nat.zero_lt_one, Nat.le_refl _, fun j hj => ?_⟩
          have hj : j < 1 := hj
          have : j = 0 := by omega
          subst this; rfl
      · rw [List.map_append, List.sum_append, h.sum]
        simp only [List.map_cons, List.map_nil, List.sum_cons, List.sum_nil, Int.add_zero]
        rw [LP.CL_one, LP.CL_next L f c (show 0 < n by omega)]
        have : L.bk (lnk f c (n - 1)) (lnk f c n) = 1 := by
          unfold LP.bk
          rw [if_neg fun h => ?_]
          have h := h.1
          unfold wvk at hlast z
          omega
        omega
/-- a wave has few lanes -/
theorem GOK.few {L : LP} {f c : Int} {n : Nat} {gs : List (Nat × Nat)} (hW : 0 < L.W) (hc : 0 < c) (h : GOK L f c n gs) {p : Nat × Nat} (hp : p ∈ gs) : (p.2 : Int) ≤ L.W := by
  obtain ⟨a1, a2, a3⟩ := h.one p hp
  have e := a3 (p.2 - 1) (by omega)
  unfold wvk at e
  rw [← lnk_lnk] at e
  generalize lnk f c p.1 = x at e
  unfold lnk at e
  rcases Int.lt_or_le L.W (p.2 : Int) with z | z
  · have m : c * ((p.2 - 1 : Nat) : Int) ≥ 1 * ((p.2 - 1 : Nat) : Int) := Int.mul_le_mul_of_nonneg_right (by omega) (by omega)
    exact absurd e.symm (div_far hW (by omega))
  · exact z
end Ar

set_option linter.all false
set_option maxRecDepth 100000
set_option maxHeartbeats 2000000
namespace Law
open PySem L2 DL Ar
/-- the cells of neighbours -/
def nbs (u v : Int) (l : Nat) : List Int := (List.range l).map fun j : Nat => u + v * (j : Int)
theorem nbs_succ (u v : Int) (l : Nat) : nbs u v (l + 1) = nbs u v l ++ [u + v * (l : Int)] := by
  unfold nbs; rw [List.range_succ, List.map_append]; rfl
theorem nbs_mem {u v y : Int} {l : Nat} : y ∈ nbs u v l ↔ ∃ j, j < l ∧ u + v * (j : Int) = y := by
  unfold nbs
  rw [List.mem_map]
  constructor
  · rintro ⟨j, hj, e⟩; exact ⟨j, List.mem_range.mp hj, e⟩
  · rintro ⟨j, hj, e⟩; exact ⟨j, List.mem_range.mpr hj, e⟩
theorem cz_nbs (u v : Int) {B : Nat} (key : Int) : ∀ l, cz B key (nbs u v l) = (inB u v B key l : Nat)
  | 0 => rfl
  | l + 1 => by
    rw [nbs_succ, cz_snoc, cz_nbs u v key l]
    show _ = ((inB u v B key l + if (u + v * (l : Int)) % (B : Int) = key then 1 else 0 : Nat) : Int)
    split <;> simp
theorem nbs_nodup {u v : Int} (hv : v ≠ 0) : ∀ l, (nbs u v l).Nodup
  | 0 => List.nodup_nil
  | l + 1 => by
    rw [nbs_succ, List.nodup_append]
    refine ⟨nbs_nodup hv l, by simp, fun x hx y hy e => ?_⟩
    obtain rfl := List.mem_singleton.mp hy
    obtain ⟨j, hj, e2⟩ := nbs_mem.mp hx
    have e3 : v * (j : Int) = v * (l : Int) := by omega
    have := Int.eq_of_mul_eq_mul_left hv e3
    omega
theorem cz_same {B key : Int} {l m : List Int} (h1 : l.Nodup) (h2 : m.Nodup) (h : ∀ k, k ∈ l ↔ k ∈ m) : cz B key l = cz B key m := by
  have a := nodup_le2 (l := l.filter fun x => decide (x % B = key)) (m := m.filter fun x => decide (x % B = key)) (h1.filter _) fun x hx => by
    obtain ⟨x1, x2⟩ := List.mem_filter.mp hx
    exact List.mem_filter.mpr ⟨(h x).mp x1, x2⟩
  have b := nodup_le2 (l := m.filter fun x => decide (x % B = key)) (m := l.filter fun x => decide (x % B = key)) (h2.filter _) fun x hx => by
    obtain ⟨x1, x2⟩ := List.mem_filter.mp hx
    exact List.mem_filter.mpr ⟨(h x).mpr x1, x2⟩
  unfold cz
  omega
/-- the degree of so many lanes -/
def dgr (l : Nat) (v : Int) (B : Nat) : Int := if v = 0 then (if l = 0 then 0 else 1) else ((l + bper v B - 1) / bper v B : Nat)
theorem deg_one {B : Int} {ns ms : List Int} {r g : Int} (hle : ∀ key, cz B key ms ≤ g) (hat : g = 0 ∨ ∃ key, cz B key ms = g) (h1 : ∀ key, cz B key ms ≤ r) (h2 : r = 0 ∨ ∃ key, cz B key ms = r) : r = g := by
  have g0 : 0 ≤ g := Int.le_trans (cz_nonneg B 0 ms) (hle 0)
  have r0 : 0 ≤ r := Int.le_trans (cz_nonneg B 0 ms) (h1 0)
  have a : r ≤ g := by
    rcases h2 with z | ⟨k, z⟩
    · omega
    · rw [← z]; exact hle k
  have b : g ≤ r := by
    rcases hat with z | ⟨k, z⟩
    · omega
    · rw [← z]; exact h1 k
  omega
theorem deg_nbs {u v : Int} {B : Nat} {l : Nat} {r : Int} (hB : 0 < B) (h : Deg B (nbs u v l) r) : r = dgr l v B := by
  obtain ⟨ms, hpw, hm, h1, h2⟩ := h
  have nd : ms.Nodup := hpw.imp fun {a b} z => by omega
  unfold dgr
  by_cases hv : v = 0
  · rw [if_pos hv]
    subst hv
    have all : ∀ x ∈ ms, x = u := fun x hx => by
      obtain ⟨j, _, e⟩ := nbs_mem.mp ((hm x).mp hx)
      omega
    have len : ms.length ≤ 1 := nodup_le2 (m := [u]) nd fun x hx => List.mem_singleton.mpr (all x hx)
    refine deg_one (B := B) (ns := ms) (ms := ms) (fun key => ?_) ?_ h1 h2
    · have := cz_le B key ms
      split
      · rename_i z
        subst z
        have : ms = [] := by
          cases ms with
          | nil => rfl
          | cons x t => obtain ⟨j, hj, _⟩ := nbs_mem.mp ((hm x).mp (by simp)); omega
        rw [this]; exact Int.le_refl 0
      · omega
    · split
      · exact .inl rfl
      · rename_i z
        refine .inr ⟨u % (B : Int), ?_⟩
        have hu : u ∈ ms := (hm u).mpr (nbs_mem.mpr ⟨0, by omega, by simp⟩)
        have : ms = [u] := by
          cases ms with
          | nil => nomatch hu
          | cons x t =>
            have hx := all x (by simp)
            cases t with
            | nil => rw [hx]
            | cons y s => simp at len
        rw [this]
        unfold cz
        rw [List.filter_cons_of_pos (by exact decide_eq_true rfl)]
        rfl
  · rw [if_neg hv]
    have e : ∀ key, cz B key ms = (inB u v B key l : Nat) := fun key => by
      rw [cz_same nd (nbs_nodup hv l) hm, cz_nbs]
    refine deg_one (B := B) (ns := ms) (ms := ms) (fun key => ?_) (.inr ⟨u % (B : Int), ?_⟩) h1 h2
    · rw [e]; exact Int.ofNat_le.mpr (inB_le hB key l)
    · rw [e, inB_max hB]
end Law

set_option linter.all false
set_option maxRecDepth 100000
set_option maxHeartbeats 2000000
/-! banks -/
namespace Law
open PySem L2 DL Ar
def c_check_banks (A : Cls) : DSp := fun ds μ q e => ∃ w, ds = [.int w] ∧ if 1 ≤ w ∧ w ≤ 4096 then q .non μ else e A.InvalidNumber (.int w) μ
theorem len_check_banks {A : Cls} : ∀ ds μ q e, c_check_banks A ds μ q e → ds.length = 1 := fun ds μ q e ⟨_, h, _⟩ => by rw [h]; rfl
theorem ok_check_banks {A : Cls} : ∀ ds μ q e, c_check_banks A ds μ q e → rd_check_banks A e (endsD q) (startD 1 ds) μ := by
  rintro ds μ q e ⟨w, rfl, h⟩
  refine iteD (fun z => ?_) (fun z => ?_)
  · rw [if_neg (by omega)] at h; exact h
  refine iteD (fun z2 => ?_) (fun z2 => ?_)
  · rw [if_neg (by omega)] at h; exact h
  rw [if_pos (by omega)] at h
  exact fin h rfl
theorem dgr_le {l : Nat} {v : Int} {B : Nat} (hB : 0 < B) : 0 ≤ dgr l v B ∧ dgr l v B ≤ l := by
  unfold dgr
  split
  · split <;> omega
  · refine ⟨Int.natCast_nonneg _, ?_⟩
    have p := bper_pos (v := v) hB
    generalize bper v B = P at p ⊢
    have : (l + P - 1) / P ≤ l := by
      rcases Nat.eq_zero_or_pos l with z | z
      · rw [z, Nat.div_eq_of_lt (by omega)]; exact Nat.le_refl _
      · refine Nat.le_of_lt_succ ((Nat.div_lt_iff_lt_mul p).mpr ?_)
        obtain ⟨m, rfl⟩ : ∃ m, l = m + 1 := ⟨l - 1, by omega⟩
        obtain ⟨r, rfl⟩ : ∃ r, P = r + 1 := ⟨P - 1, by omega⟩
        have e : (m + 1).succ * (r + 1) = (m + 1) * r + (m + 1) + (r + 1) := by rw [Nat.succ_mul, Nat.mul_add, Nat.mul_one]
        have : 1 * r ≤ (m + 1) * r := Nat.mul_le_mul_right r (by omega)
        omega
    exact Int.ofNat_le.mpr this
theorem dgr_zero (v : Int) {B : Nat} (hB : 0 < B) : dgr 0 v B = 0 := by
  have := dgr_le (l := 0) (v := v) hB
  omega
def c_degree_of_lanes (A : Cls) : DSp := fun ds μ q e => ∃ l v M : Int, ds = [.int l, .int v, .int M] ∧ 0 ≤ l ∧ l < 2 ^ 200 ∧ 1 ≤ M ∧ M ≤ 4096 ∧ q (.int (dgr l.toNat v M.toNat)) μ
theorem len_degree_of_lanes {A : Cls} : ∀ ds μ q e, c_degree_of_lanes A ds μ q e → ds.length = 3 := fun ds μ q e ⟨_, _, _, h, _⟩ => by rw [h]; rfl
theorem ok_degree_of_lanes {A : Cls} : ∀ ds μ q e, c_degree_of_lanes A ds μ q e → rd_degree_of_lanes A e (endsD q) (startD 4 ds) μ := by
  rintro ds μ q e ⟨l, v, M, rfl, l0, l1, M0, M1, h⟩
  unfold dgr at h
  refine iteD (fun z => ?_) (fun z => ?_)
  · rw [if_pos z] at h
    refine fin h (congrArg D.int ?_)
    by_cases z2 : l.toNat = 0
    · rw [if_pos z2]; split <;> omega
    · rw [if_neg z2]; split <;> omega
  rw [if_neg z] at h
  have hB : 0 < M.toNat := by omega
  have gp : 0 < Nat.gcd v.natAbs M.natAbs := Nat.gcd_pos_of_pos_right _ (by omega)
  have gl : Nat.gcd v.natAbs M.natAbs ≤ M.natAbs := Nat.gcd_le_right _ (by omega)
  have e1 : M / ((Nat.gcd v.natAbs M.natAbs : Nat) : Int) = ((bper v M.toNat : Nat) : Int) := by
    unfold bper
    rw [show M.natAbs = M.toNat by omega, Int.natCast_ediv, Int.toNat_of_nonneg (by omega)]
  have p := bper_pos (v := v) hB
  have pl : bper v M.toNat ≤ M.toNat := Nat.div_le_self _ _
  refine ⟨CDiv_of (by omega) (by omega), ?_⟩
  refine ⟨CDiv_of (show (0 : Int) < M / ((Nat.gcd v.natAbs M.natAbs : Nat) : Int) by rw [e1]; omega) (show M / ((Nat.gcd v.natAbs M.natAbs : Nat) : Int) < 2 ^ 256 by rw [e1]; omega), ?_⟩
  refine fin h (congrArg D.int ?_)
  show (l + M / ((Nat.gcd v.natAbs M.natAbs : Nat) : Int) - 1) / (M / ((Nat.gcd v.natAbs M.natAbs : Nat) : Int)) = _
  rw [e1, Int.natCast_ediv]
  congr 1
  omega
def prI (z : Int × Int) : D := .tup [.int z.1, .int z.2]
def c_waves_by_lanes (A : Cls) : DSp := fun ds μ q e => ∃ a b c d w, ds = [gd a b c d, .int w] ∧ gB a b c d ∧ b < 2 ^ 180 ∧ (1 ≤ w ∧ w ≤ 32) ∧ ∀ zs, WB a b c d w zs → q (.lst (zs.map prI)) μ
theorem len_waves_by_lanes {A : Cls} : ∀ ds μ q e, c_waves_by_lanes A ds μ q e → ds.length = 2 := fun ds μ q e ⟨_, _, _, _, _, h, _⟩ => by rw [h]; rfl
theorem wb_far {a b c d w : Int} (hg : isG a b c d = true) (w1 : 1 ≤ w) (h : w ≤ c) : WB a b c d w [(1, cnt a b c d)] := by
  obtain ⟨h1, h2, h3, h4⟩ := isG_iff.mp hg
  have c0 := cnt_nonneg (a := a) (b := b) (d := d) (show 0 < c by omega) h2
  have cl := cnt_le (a := a) (b := b) (d := d) (show 0 < c by omega) h2
  have one := fun i : Nat => ci_one (n := i) (d := d) (show 0 < c by omega) h2 (show 0 < w by omega) h
  have tot : ∀ n : Nat, b ≤ w * n → sm (fun i => ci a b c d w i) n = cnt a b c d := fun n hn => by
    rw [sm_ci (by omega) h3 h4 h1 h2 (by omega), bw_end h2 hn]
  refine ⟨Nat.le_of_ble_eq_true rfl, fun z hz => ?_, fun φ φ0 n hn => ?_, fun z hz hp => ?_, fun i hi => ?_⟩
  · obtain rfl := List.mem_singleton.mp hz
    exact ⟨⟨Int.zero_le_ofNat 1, by dsimp only; omega⟩, c0, by show cnt a b c d ≤ b; omega⟩
  · show φ 1 * cnt a b c d + 0 = _
    rw [← tot n hn, Int.add_zero, ← sm_mul]
    refine sm_congr fun i hi => ?_
    rcases (show ci a b c d w i = 0 ∨ ci a b c d w i = 1 by have := one i; omega) with z | z
    · rw [z, φ0, Int.mul_zero]
    · rw [z, Int.mul_one]
  · obtain rfl := List.mem_singleton.mp hz
    rcases Classical.em (∃ i : Nat, ci a b c d w i = 1) with y | y
    · exact y
    · exfalso
      have := tot (b.toNat) (by
        have : 1 * b ≤ w * b := Int.mul_le_mul_of_nonneg_right w1 (by omega)
        rw [Int.toNat_of_nonneg (by omega)]; omega)
      rw [sm_zero fun i _ => (by
        have := one i
        have : ci a b c d w i ≠ 1 := fun k => y ⟨i, k⟩
        omega)] at this
      have hp : 0 < cnt a b c d := hp
      omega
  · refine ⟨_, List.mem_singleton.mpr rfl, ?_, ?_⟩
    · show 0 < cnt a b c d
      have s := tot (i + 1 + b.toNat) (by
        have : 1 * ((i + 1 + b.toNat : Nat) : Int) ≤ w * ((i + 1 + b.toNat : Nat) : Int) := Int.mul_le_mul_of_nonneg_right w1 (by omega)
        omega)
      rw [sm_add] at s
      have n1 : 0 ≤ sm (fun k => ci a b c d w (i + 1 + k)) b.toNat := sm_nonneg fun k _ => (one _).1
      have n2 : 0 ≤ sm (fun k => ci a b c d w k) i := sm_nonneg fun k _ => (one _).1
      have e : sm (fun k => ci a b c d w k) (i + 1) = sm (fun k => ci a b c d w k) i + ci a b c d w i := rfl
      omega
    · show (1 : Int) = ci a b c d w i
      have := one i
      omega
theorem wb_none {a c d w : Int} (hc : 0 < c) (hw : 0 < w) : WB a a c d w [] := by
  have z : ∀ i : Nat, ci a a c d w i = 0 := fun i => by
    obtain ⟨c0, c1, c2⟩ := ci_le (n := i) (d := d) hc (Int.le_refl a) hw
    have b1 := bw_facts (n := i) (Int.le_refl a) hw
    have b2 := bw_facts (n := i + 1) (Int.le_refl a) hw
    omega
  refine ⟨by decide, fun _ h => (nomatch h), fun φ φ0 n hn => ?_, fun _ h => (nomatch h), fun i hi => ?_⟩
  · rw [sm_zero fun i _ => by rw [z i, φ0]]; rfl
  · have := z i; omega
theorem sum_range (F : Nat → Int) : ∀ n, ((List.range n).map F).sum = sm F n
  | 0 => rfl
  | n + 1 => by
    rw [List.range_succ, List.map_append, List.sum_append, sum_range F n]
    show sm F n + (F n + 0) = sm F n + F n
    omega
/-- the list as it is made -/
def wbl (a b c d w : Int) (f P t : Nat) (m : Nat) : List (Int × Int) := (List.range m).map fun p : Nat => (ci a b c d w (f + 1 + p), ((turns P t p : Nat) : Int))
theorem wb_one {a b c d w : Int} {f : Nat} (hg : isG a b c d = true) (hw : 0 < w) (hw2 : w ≤ 32) (hb : a < b) (hf : a / w = f) (hl : (b - 1) / w = f) : WB a b c d w [(ci a b c d w f, 1)] := by
  obtain ⟨h1, h2, h3, h4⟩ := isG_iff.mp hg
  have cw := fun i : Nat => ci_w (n := i) (d := d) (show 0 < c by omega) h2 hw
  refine ⟨Nat.le_of_ble_eq_true rfl, fun z hz => ?_, fun φ φ0 n hn => ?_, fun z hz hp => ?_, fun i hi => ?_⟩
  · obtain rfl := List.mem_singleton.mp hz
    have := cw f
    exact ⟨by dsimp only; omega, by dsimp only; omega⟩
  · rw [wave_sum1 φ0 (by omega) h2 hw hf hl hn hb]
    show φ (ci a b c d w f) * 1 + 0 = _
    omega
  · obtain rfl := List.mem_singleton.mp hz
    exact ⟨f, rfl⟩
  · refine ⟨_, List.mem_singleton.mpr rfl, Int.one_pos, ?_⟩
    have s := fun (φ : Int → Int) (φ0 : φ 0 = 0) => wave_sum1 (d := d) (φ := φ) (n := (i + 1 + b.toNat)) φ0 (show 0 < c by omega) h2 hw hf hl (by
        have : 1 * ((i + 1 + b.toNat : Nat) : Int) ≤ w * ((i + 1 + b.toNat : Nat) : Int) := Int.mul_le_mul_of_nonneg_right (by omega) (by omega)
        omega) hb
    have key := s (fun x => if x = ci a b c d w i then 1 else 0) (if_neg (by omega))
    have n1 : 0 ≤ sm (fun k => (fun x => if x = ci a b c d w i then (1 : Int) else 0) (ci a b c d w (i + 1 + k))) b.toNat := sm_nonneg fun k _ => by dsimp only; split <;> omega
    have n2 : 0 ≤ sm (fun k => (fun x => if x = ci a b c d w i then (1 : Int) else 0) (ci a b c d w k)) i := sm_nonneg fun k _ => by dsimp only; split <;> omega
    have e : sm (fun k => (fun x => if x = ci a b c d w i then (1 : Int) else 0) (ci a b c d w k)) (i + 1) = sm (fun k => (fun x => if x = ci a b c d w i then (1 : Int) else 0) (ci a b c d w k)) i + (if ci a b c d w i = ci a b c d w i then 1 else 0) := rfl
    have pos : (0 : Int) < sm (fun k => (fun x => if x = ci a b c d w i then (1 : Int) else 0) (ci a b c d w k)) (i + 1 + b.toNat) := by
      rw [sm_add, e, if_pos rfl]
      omega
    rw [key] at pos
    dsimp only at pos ⊢
    split at pos
    · assumption
    · omega
theorem wb_two {a b c d w : Int} {f t P : Nat} (hg : isG a b c d = true) (hw : 0 < w) (hw2 : w ≤ 32) (hcw : c < w) (hb : a < b) (hP : P = per w.toNat c.toNat) (hf : a / w = f) (hl : (b - 1) / w = ((f + t + 1 : Nat) : Int)) :
    WB a b c d w ([(ci a b c d w f, 1), (ci a b c d w (f + t + 1), 1)] ++ wbl a b c d w f P t (min P t)) := by
  obtain ⟨h1, h2, h3, h4⟩ := isG_iff.mp hg
  have P0 : 0 < P := by rw [hP]; exact per_pos (by omega)
  have P1 : P ≤ c.toNat := by rw [hP]; exact Nat.div_le_self _ _
  have cw := fun i : Nat => ci_w (n := i) (d := d) (show 0 < c by omega) h2 hw
  have tb : (t : Int) ≤ b := by
    have := Int.ediv_le_self (a := b - 1) w (by omega)
    omega
  have sum : ∀ φ : Int → Int, φ 0 = 0 → ∀ n : Nat, b ≤ w * n → (([(ci a b c d w f, 1), (ci a b c d w (f + t + 1), 1)] ++ wbl a b c d w f P t (min P t)).map fun z : Int × Int => φ z.1 * z.2).sum = sm (fun i => φ (ci a b c d w i)) n := fun φ φ0 n hn => by
    rw [wave_sum φ0 (by omega) h2 hw hP hf hl hn, List.map_append, List.sum_append]
    unfold wbl
    rw [List.map_map, ← sum_range]
    show φ (ci a b c d w f) * 1 + (φ (ci a b c d w (f + t + 1)) * 1 + 0) + _ = _
    rw [Int.mul_one, Int.mul_one, Int.add_zero]
    rfl
  have tl : ∀ p, ((turns P t p : Nat) : Int) ≤ t := fun p => by
    rcases Nat.eq_zero_or_pos (turns P t p) with z | z
    · omega
    · have := turns_lt (n := t) (p := p) P0 (show turns P t p - 1 < turns P t p by omega)
      have : 1 * (turns P t p - 1) ≤ P * (turns P t p - 1) := Nat.mul_le_mul_right _ P0
      omega
  have nn : ∀ z ∈ ([(ci a b c d w f, 1), (ci a b c d w (f + t + 1), 1)] ++ wbl a b c d w f P t (min P t) : List (Int × Int)), (0 ≤ z.1 ∧ z.1 ≤ 32) ∧ 0 ≤ z.2 ∧ z.2 ≤ b := fun z hz => by
    rcases List.mem_append.mp hz with k | k
    · simp only [List.mem_cons, List.not_mem_nil, or_false] at k
      rcases k with rfl | rfl
      · have := cw f
        exact ⟨by dsimp only; omega, by dsimp only; omega⟩
      · have := cw (f + t + 1)
        exact ⟨by dsimp only; omega, by dsimp only; omega⟩
    · obtain ⟨p, _, rfl⟩ := List.mem_map.mp k
      have := cw (f + 1 + p)
      have := tl p
      exact ⟨by dsimp only; omega, by dsimp only; omega⟩
  refine ⟨?_, nn, sum, fun z hz hp => ?_, fun i hi => ?_⟩
  · rw [List.length_append]
    unfold wbl
    rw [List.length_map, List.length_range]
    have : min P t ≤ P := Nat.min_le_left _ _
    show 2 + _ ≤ 100
    omega
  · rcases List.mem_append.mp hz with k | k
    · simp only [List.mem_cons, List.not_mem_nil, or_false] at k
      rcases k with rfl | rfl
      · exact ⟨f, rfl⟩
      · exact ⟨f + t + 1, rfl⟩
    · obtain ⟨p, _, rfl⟩ := List.mem_map.mp k
      exact ⟨f + 1 + p, rfl⟩
  · rcases Classical.em (∃ z ∈ ([(ci a b c d w f, 1), (ci a b c d w (f + t + 1), 1)] ++ wbl a b c d w f P t (min P t) : List (Int × Int)), 0 < z.2 ∧ z.1 = ci a b c d w i) with y | y
    · exact y
    exfalso
    have key := sum (fun x => if x = ci a b c d w i then 1 else 0) (if_neg (by omega)) (i + 1 + b.toNat) (by
        have : 1 * ((i + 1 + b.toNat : Nat) : Int) ≤ w * ((i + 1 + b.toNat : Nat) : Int) := Int.mul_le_mul_of_nonneg_right (by omega) (by omega)
        omega)
    have n1 : 0 ≤ sm (fun k => (fun x => if x = ci a b c d w i then (1 : Int) else 0) (ci a b c d w (i + 1 + k))) b.toNat := sm_nonneg fun k _ => by dsimp only; split <;> omega
    have n2 : 0 ≤ sm (fun k => (fun x => if x = ci a b c d w i then (1 : Int) else 0) (ci a b c d w k)) i := sm_nonneg fun k _ => by dsimp only; split <;> omega
    have e : sm (fun k => (fun x => if x = ci a b c d w i then (1 : Int) else 0) (ci a b c d w k)) (i + 1) = sm (fun k => (fun x => if x = ci a b c d w i then (1 : Int) else 0) (ci a b c d w k)) i + (if ci a b c d w i = ci a b c d w i then 1 else 0) := rfl
    have pos : (0 : Int) < sm (fun k => (fun x => if x = ci a b c d w i then (1 : Int) else 0) (ci a b c d w k)) (i + 1 + b.toNat) := by
      rw [sm_add, e, if_pos rfl]
      omega
    rw [← key] at pos
    have z0 : ∀ (l : List (Int × Int)), (∀ z ∈ l, (0 ≤ z.2) ∧ ¬ (0 < z.2 ∧ z.1 = ci a b c d w i)) → (l.map fun z => (fun x => if x = ci a b c d w i then (1 : Int) else 0) z.1 * z.2).sum = 0 := fun l hl => by
      induction l with
      | nil => rfl
      | cons x l ih =>
        rw [List.map_cons, List.sum_cons, ih fun z hz => hl z (List.mem_cons_of_mem _ hz)]
        have := hl x List.mem_cons_self
        dsimp only
        split
        · rename_i k
          have : x.2 = 0 := by
            rcases Int.lt_or_le 0 x.2 with q | q
            · exact absurd ⟨q, k⟩ this.2
            · omega
          rw [this]; rfl
        · omega
    rw [z0 _ fun z hz => ⟨(nn z hz).2.1, fun k => y ⟨z, hz, k⟩⟩] at pos
    omega
end Law

set_option linter.all false
set_option maxRecDepth 100000
set_option maxHeartbeats 2000000
namespace Law
open PySem L2 DL Ar
theorem win_ok {a b c d w n : Int} (h1 : isG a b c d = true) (hw : 0 < w) (hn : 0 ≤ n) : isG (wLo a w n) (wHi a b w n) c d = true := by
  obtain ⟨h1, h2, h3, h4⟩ := isG_iff.mp h1
  have h0 : 0 ≤ w * n := Int.mul_nonneg (by omega) hn
  exact isG_iff.mpr ⟨by unfold wLo mx; split <;> omega, by unfold wHi mx; split <;> omega, h3, h4⟩
theorem wbl_succ (a b c d w : Int) (f P t i : Nat) : wbl a b c d w f P t (i + 1) = wbl a b c d w f P t i ++ [(ci a b c d w (f + 1 + i), ((turns P t i : Nat) : Int))] := by
  unfold wbl; rw [List.range_succ, List.map_append]; rfl
theorem wl_rest {A : Cls} {e : DX} {q : DK} {μ : Mu} {a b c d w : Int} {x12 x13 : Option D} {f t P : Nat} {es : List Nat} {zs0 : List (Int × Int)} (hg : gB a b c d) (hw : 1 ≤ w ∧ w ≤ 32) (hcw : c < w) (ff : (f : Int) < 2 ^ 190) (tt : (t : Int) < 2 ^ 190) (hf : a / w = f) (hP : P = per w.toNat c.toNat)
    (hl : (b - 1) / w = f + t + 1 ∨ (b - 1) / w = f ∧ t = 0) (hes : zs0 = es.map fun n => (ci a b c d w n, (1 : Int))) (hel : es.length ≤ 2) (hen : ∀ n ∈ es, (n : Int) < 2 ^ 198) (h : q (.lst ((zs0 ++ wbl a b c d w f P t (min P t)).map prI)) μ) :
    (dSeq (dAsg (dLcM (diSq (dVar 8)) (dgName 14) dYes (dTup (dCons (dCall (c_count_lanes A) eN [] (dCons (dCall (c_lanes_of_wave A) eN [] (dCons (dVar 0) (dCons (dVar 1) (dCons (dVar 14) dNil)))) dNil)) (dCons (dC (.int 1)) dNil))) [14]) (dgName 9))
    (dSeq (dPar 10 11 (dCons (dOp rDivD (dVar 4) (dCB rGcdD (dCons (dVar 4) (dCons (dVar 1) dNil)))) (dCons (dOp rSubD (dOp rSubD (dVar 7) (dVar 6)) (dC (.int 1))) dNil)))
    (dSeq (dFor (diRw1 (dCons (dCB rMin2D (dCons (dVar 10) (dCons (dVar 11) dNil))) dNil)) (dgName 12) (dSeq (dAsg (dCall (c_count_lanes A) e [] (dCons (dCall (c_lanes_of_wave A) e [] (dCons (dVar 0) (dCons (dVar 1) (dCons (dOp rAddD (dOp rAddD (dVar 6) (dC (.int 1))) (dVar 12)) dNil)))) dNil)) (dgName 13))
    (dDrop (dAppend (dVar 9) (dTup (dCons (dVar 13) (dCons (dOp rDivD (dOp rSubD (dOp rAddD (dOp rSubD (dVar 11) (dVar 12)) (dVar 10)) (dC (.int 1))) (dVar 10)) dNil)))))))
    (dRet (dVarF 9))))) (endsD q) [some (gd a b c d), some (.int w), some (.int a), some (.int b), some (.int c), some (.int d), some (.int (f : Int)), some (.int ((b - 1) / w)), some (.lst (es.map fun n : Nat => D.int (n : Int))), none, none, none, x12, x13, none] μ := by
  obtain ⟨h1, h2, h3, h4⟩ := isG_iff.mp hg.1
  refine ⟨fun i l μ' => μ' = μ ∧ l = (zs0.take i).map prI, ⟨rfl, rfl⟩, fun i l μ' hi hP => ⟨trivial, ?_⟩, ?_, ?_⟩
  · rw [List.length_map] at hi
    rw [hP.2, List.length_map, List.length_take, sizeLine_eq]; omega
  · rintro i y l μ' hi ⟨hμ, rfl⟩
    obtain rfl := hμ.symm
    obtain ⟨n, hn, rfl⟩ := map_get hi
    have hen2 := hen n (List.mem_of_getElem? hn)
    refine ⟨a, b, c, d, w, (n : Int), rfl, hw, ⟨by omega, by omega⟩, ?_⟩
    refine ⟨_, _, _, _, rfl, ?_⟩
    rw [if_pos (win_ok hg.1 (by omega) (by omega))]
    refine ⟨by have := hg.2.2; omega, ?_⟩
    refine ⟨sz 2 rfl (by decide), rfl, ?_⟩
    have : zs0[i]? = some (ci a b c d w n, (1 : Int)) := by rw [hes, List.getElem?_map, hn]; rfl
    rw [List.take_add_one, this, List.map_append]; rfl
  rintro l μ' ⟨hμ, rfl⟩
  obtain rfl := hμ.symm
  rw [List.length_map, show es.length = zs0.length by rw [hes, List.length_map], List.take_length]
  intro p hp
  have g0 : 0 < Nat.gcd c.natAbs w.natAbs := Nat.gcd_pos_of_pos_right _ (by omega)
  have gl : Nat.gcd c.natAbs w.natAbs ≤ w.natAbs := Nat.gcd_le_right _ (by omega)
  have eP : c / ((Nat.gcd c.natAbs w.natAbs : Nat) : Int) = (P : Int) := by
    rw [hP]
    unfold per
    rw [show c.natAbs = c.toNat by omega, show w.natAbs = w.toNat by omega, Nat.gcd_comm w.toNat c.toNat, Int.natCast_ediv, Int.toNat_of_nonneg (by omega)]
  have P0 : 0 < P := by rw [hP]; exact per_pos (by omega)
  have P1 : P ≤ c.toNat := by rw [hP]; exact Nat.div_le_self _ _
  refine ⟨CDiv_of (by omega) (by omega), ?_⟩
  dsimp only
  rw [eP]
  have hbt : (b - 1) / w - (f : Int) - 1 = if (b - 1) / w = f then -1 else (t : Int) := by
    split <;> omega
  have hm : ∀ {z : Int}, z = (b - 1) / w - (f : Int) - 1 → (if z < (P : Int) then z else (P : Int)).toNat = min P t := fun {z} hz => by
    rw [hz]
    rcases hl with k | ⟨k, rfl⟩
    · rw [k]; split <;> omega
    · rw [k]; split <;> omega
  refine ⟨fun i δ μ' => ∃ x12 x13, δ = [some (gd a b c d), some (.int w), some (.int a), some (.int b), some (.int c), some (.int d), some (.int (f : Int)), some (.int ((b - 1) / w)), some (.lst (es.map fun n : Nat => D.int (n : Int))), some (.adr p), some (.int (P : Int)), some (.int ((b - 1) / w - (f : Int) - 1)), x12, x13, none] ∧ μ' = updM μ p (.lst ((zs0 ++ wbl a b c d w f P t i).map prI)), ⟨x12, x13, rfl, ?_⟩, fun _ _ _ _ _ => trivial, ?_, ?_⟩
  · unfold wbl; rw [List.range_zero, List.map_nil, List.append_nil]
  · rintro i y δ μ' hi ⟨x12, x13, rfl, rfl⟩
    obtain ⟨hi2, rfl⟩ := ints_get hi
    have hi3 : i < min P t := by rw [← hm rfl]; exact hi2
    have hl : (b - 1) / w = f + t + 1 := by
      rcases hl with k | ⟨k, rfl⟩
      · exact k
      · omega
    have ez : (f : Int) + 1 + (0 + (i : Int)) = ((f + 1 + i : Nat) : Int) := by omega
    refine ⟨a, b, c, d, w, (f : Int) + 1 + (0 + (i : Int)), rfl, hw, ⟨by omega, by omega⟩, ?_⟩
    refine ⟨_, _, _, _, rfl, ?_⟩
    rw [if_pos (win_ok hg.1 (by omega) (by omega)), ez]
    refine ⟨by have := hg.2.2; omega, ?_⟩
    have lz : (zs0 ++ wbl a b c d w f P t i).length ≤ 100 := by
      rw [List.length_append, hes, List.length_map]; unfold wbl; rw [List.length_map, List.length_range]; omega
    refine ⟨⟨_, updM_same _ _ _⟩, ?_⟩
    have ed : ((b - 1) / w - (f : Int) - 1 - (0 + (i : Int)) + (P : Int) - 1) / (P : Int) = ((turns P t i : Nat) : Int) := by
      unfold turns
      rw [Int.natCast_ediv, hl]
      congr 1
      omega
    refine ⟨CDiv_of (by omega) (by omega), ?_⟩
    refine ⟨sz 2 rfl (by decide), ?_⟩
    refine ⟨_, updM_same _ _ _, by rw [List.length_map, sizeLine_eq]; omega, ?_⟩
    refine ⟨_, _, rfl, ?_⟩
    rw [updM_updM]
    dsimp only
    rw [ed]
    rw [wbl_succ, ← List.append_assoc]
    exact congrArg (fun l => updM μ p (.lst l)) (List.map_append (f := prI) (l₁ := zs0 ++ wbl a b c d w f P t i) (l₂ := [(ci a b c d w (f + 1 + i), ((turns P t i : Nat) : Int))])).symm
  · rintro δ μ' ⟨x12, x13, rfl, rfl⟩
    rw [ints_len, hm rfl]
    conv => whnf
    rw [updM_same]
    refine ⟨μ, fun x m ex => ?_, h⟩
    have z : x ≠ p := fun z => by rw [z, hp] at ex; cases ex
    show (if x = p then none else updM μ p _ x) = some m
    rw [if_neg z, updM_ne z]; exact ex
theorem ok_waves_by_lanes {A : Cls} : ∀ ds μ q e, c_waves_by_lanes A ds μ q e → rd_waves_by_lanes A (c_count_lanes A) (c_lanes_of_wave A) e (endsD q) (startD 15 ds) μ := by
  rintro ds μ q e ⟨a, b, c, d, w, rfl, hg, hb, hw, h⟩
  obtain ⟨h1, h2, h3, h4⟩ := isG_iff.mp hg.1
  have hc := hg.2.2
  refine ⟨rfl, ?_⟩
  refine iteD (fun z => ?_) (fun z => ?_)
  · refine ⟨a, b, c, d, rfl, ?_⟩
    rw [if_pos hg.1]
    refine ⟨by omega, ?_⟩
    refine ⟨sz 2 rfl (by decide), sz 1 rfl (by decide), ?_⟩
    exact fin (h _ (wb_far hg.1 hw.1 z)) rfl
  have z : ¬ w ≤ c := z
  refine iteD (fun z2 => ?_) (fun z2 => ?_)
  · have z2 : a = b := z2
    subst z2
    refine ⟨sz 0 rfl (by decide), ?_⟩
    exact fin (h _ (wb_none (by omega) (by omega))) rfl
  have z2 : ¬ a = b := z2
  have f0 : 0 ≤ a / w := Int.ediv_nonneg h1 (by omega)
  have f1 : a / w ≤ a := Int.ediv_le_self _ h1
  have l0 : a / w ≤ (b - 1) / w := Int.ediv_le_ediv (by omega) (by omega)
  have l1 : (b - 1) / w ≤ b - 1 := Int.ediv_le_self _ (by omega)
  obtain ⟨f, hf⟩ : ∃ f : Nat, a / w = f := ⟨(a / w).toNat, by omega⟩
  refine ⟨CDiv_of (by omega) (by omega), CDiv_of (by omega) (by omega), ?_⟩
  dsimp only
  rw [hf]
  have P1 : (0 : Nat) < per w.toNat c.toNat := per_pos (by omega)
  refine iteD (fun z3 => ?_) (fun z3 => ?_)
  · have z3 : (f : Int) = (b - 1) / w := z3
    refine ⟨sz 1 rfl (by decide), ?_⟩
    refine wl_rest (f := f) (t := 0) (P := per w.toNat c.toNat) (es := [f]) (zs0 := [(ci a b c d w f, 1)]) hg hw (by omega) (by omega) (by omega) hf rfl (.inr ⟨z3.symm, rfl⟩) rfl (Nat.le_of_ble_eq_true rfl) (fun n hn => by obtain rfl := List.mem_singleton.mp hn; omega) ?_
    rw [Nat.min_zero]
    exact h _ (wb_one hg.1 (by omega) hw.2 (by omega) hf z3.symm)
  · have z3 : ¬ (f : Int) = (b - 1) / w := z3
    obtain ⟨t, ht⟩ : ∃ t : Nat, (b - 1) / w = ((f + t + 1 : Nat) : Int) := ⟨((b - 1) / w - f - 1).toNat, by omega⟩
    refine ⟨sz 2 rfl (by decide), ?_⟩
    have key := wl_rest (A := A) (e := e) (q := q) (μ := μ) (a := a) (b := b) (d := d) (x12 := none) (x13 := none) (f := f) (t := t) (P := per w.toNat c.toNat) (es := [f, f + t + 1]) (zs0 := [(ci a b c d w f, 1), (ci a b c d w (f + t + 1), 1)]) hg hw (by omega) (by omega) (by omega) hf rfl (.inl (by rw [ht]; omega)) rfl (Nat.le_of_ble_eq_true rfl) (fun n hn => by
      simp only [List.mem_cons, List.not_mem_nil, or_false] at hn
      rcases hn with rfl | rfl <;> omega) (h _ (wb_two hg.1 (by omega) hw.2 (by omega) (by omega) rfl hf ht))
    have e1 : D.lst ([f, f + t + 1].map fun n : Nat => D.int (n : Int)) = .lst [.int (f : Int), .int ((b - 1) / w)] := by rw [ht]; rfl
    rw [e1] at key
    exact key
end Law

set_option linter.all false
set_option maxRecDepth 100000
set_option maxHeartbeats 1000000
namespace Law
open PySem L2 DL Ar
def c_count_up_to (A : Cls) : DSp := fun ds μ q e => ∃ (bs : List Int) (s : Int), ds = [.lst (bs.map D.int), .int s] ∧ bs.length ≤ 1000 ∧ ∀ n : Nat, q (.int (n : Nat)) μ
theorem len_count_up_to {A : Cls} : ∀ ds μ q e, c_count_up_to A ds μ q e → ds.length = 2 := fun ds μ q e ⟨_, _, h, _⟩ => by rw [h]; rfl
theorem ok_count_up_to {A : Cls} : ∀ ds μ q e, c_count_up_to A ds μ q e → rd_count_up_to A e (endsD q) (startD 3 ds) μ := by
  rintro ds μ q e ⟨bs, s, rfl, hl, h⟩
  refine ⟨fun i l μ' => μ' = μ ∧ l.length ≤ i, ⟨rfl, Nat.le_refl _⟩, fun i l μ' hi hP => ⟨trivial, ?_⟩, ?_, ?_⟩
  · rw [List.length_map] at hi
    have := hP.2
    rw [sizeLine_eq]; omega
  · rintro i d l μ' hi ⟨rfl, hP⟩
    obtain ⟨b, hb, rfl⟩ := map_get hi
    refine iteD (fun z => ?_) (fun z => ?_)
    · exact ⟨rfl, by simp; omega⟩
    · exact ⟨rfl, by omega⟩
  · rintro l μ' ⟨rfl, hP⟩
    exact fin (h l.length) rfl
/-! what a lane of an access does -/
def dns : List Str := ["number", "phase", "array", "writes", "side"]
def sideD (g : G4) (a b : Int) (x : D) : D := .tup [g.D, .int a, .int b, x]
def isDo (A : Cls) (g : G4) (a b : Int) (d : D) : Prop := ∃ x y z w u, d = .ins A.Doing dns [x, y, z, w, sideD g a b u]
theorem dn1 (x : D) : putN "number" x [] [] = ([("number" : Str)], [x]) := rfl
theorem dn2 (x y : D) : putN "phase" y [("number" : Str)] [x] = ([("number" : Str), "phase"], [x, y]) := by
  simp only [putN, if_neg (show ¬ (("number" : Str) = "phase") by decide +kernel)]
theorem dn3 (x y z : D) : putN "array" z [("number" : Str), "phase"] [x, y] = ([("number" : Str), "phase", "array"], [x, y, z]) := by
  simp only [putN, if_neg (show ¬ (("number" : Str) = "array") by decide +kernel), if_neg (show ¬ (("phase" : Str) = "array") by decide +kernel)]
theorem dn4 (x y z w : D) : putN "writes" w [("number" : Str), "phase", "array"] [x, y, z] = ([("number" : Str), "phase", "array", "writes"], [x, y, z, w]) := by
  simp only [putN, if_neg (show ¬ (("number" : Str) = "writes") by decide +kernel), if_neg (show ¬ (("phase" : Str) = "writes") by decide +kernel), if_neg (show ¬ (("array" : Str) = "writes") by decide +kernel)]
theorem dn5 (x y z w v : D) : putN "side" v [("number" : Str), "phase", "array", "writes"] [x, y, z, w] = (dns, [x, y, z, w, v]) := by
  simp only [putN, if_neg (show ¬ (("number" : Str) = "side") by decide +kernel), if_neg (show ¬ (("phase" : Str) = "side") by decide +kernel), if_neg (show ¬ (("array" : Str) = "side") by decide +kernel), if_neg (show ¬ (("writes" : Str) = "side") by decide +kernel)]; rfl
/-- where the accesses of a statement stand, with their a and b -/
def St.plc : St → List (Int × Int × Int)
  | .put _ _ a b _ _ => [(2, a, b)]
  | .move _ _ a b _ a2 b2 _ => [(5, a2, b2), (2, a, b)]
  | .sum _ _ a b _ a2 b2 _ a3 b3 => [(5, a2, b2), (8, a3, b3), (2, a, b)]
def accs (ss : List St) : List (G4 × Int × Int) := ss.flatMap fun s => s.plc.map fun p => (s.g, p.2)
def c_Doing___init__ (A : Cls) : DSp := fun ds μ q e => ∃ (p : Addr) (n : Int) (s : St) (pl a b ph : Int), ds = [.adr p, .int n, s.d, .int pl, .int ph] ∧ (pl, a, b) ∈ s.plc ∧ μ p = some (.obj A.Doing [] []) ∧
  ∀ x y z w u, q .non (updM μ p (.obj A.Doing dns [x, y, z, w, sideD s.g a b u]))
theorem len_Doing___init__ {A : Cls} : ∀ ds μ q e, c_Doing___init__ A ds μ q e → ds.length = 5 := fun ds μ q e ⟨_, _, _, _, _, _, _, h, _⟩ => by rw [h]; rfl
theorem do_fin {A : Cls} {q : DK} {μ : Mu} {p : Addr} {x y z w v : D} (h : q .non (updM μ p (.obj A.Doing dns [x, y, z, w, v]))) :
    ∃ μ2, Sub μ2 (updM (updM (updM (updM (updM μ p (.obj A.Doing ["number"] [x])) p (.obj A.Doing ["number", "phase"] [x, y])) p (.obj A.Doing ["number", "phase", "array"] [x, y, z])) p (.obj A.Doing ["number", "phase", "array", "writes"] [x, y, z, w])) p (.obj A.Doing dns [x, y, z, w, v])) ∧ q .non μ2 := by
  rw [updM_updM, updM_updM, updM_updM, updM_updM]
  exact ⟨_, Sub.refl _, h⟩
theorem ok_Doing___init__ {A : Cls} : ∀ ds μ q e, c_Doing___init__ A ds μ q e → rd_Doing___init__ A e (endsD q) (startD 6 ds) μ := by
  rintro ds μ q e ⟨p, n, s, pl, a, b, ph, rfl, hpl, hp, h⟩
  refine ⟨[], [], hp, by decide, ?_⟩
  rw [dn1]
  refine ⟨_, _, updM_same _ _ _, by simp, ?_⟩
  rw [dn2]
  cases s with
  | put g nm a1 b1 c1 d1 =>
    obtain ⟨rfl, rfl, rfl⟩ : pl = 2 ∧ a = a1 ∧ b = b1 := by simpa [St.plc] using hpl
    refine ⟨_, _, updM_same _ _ _, by simp, ?_⟩
    rw [dn3]
    refine ⟨_, _, updM_same _ _ _, by simp, ?_⟩
    rw [dn4]
    have e3 : cutD [.str "put", g.D, .str nm, .int a, .int b, .int c1, .int d1] (some 5) none = [.int c1, .int d1] := rfl
    conv => whnf
    rw [e3]
    refine ⟨sz 4 rfl (by decide), ?_⟩
    refine ⟨_, _, updM_same _ _ _, by simp, ?_⟩
    have e5 := dn5 (.int n) (.int ph) (.str nm) (.bl (decide ((2 : Int) = 2))) (sideD g a b (.tup [.int c1, .int d1]))
    unfold sideD at e5
    rw [e5]
    exact do_fin (h _ _ _ _ _)
  | move g nm a1 b1 src a2 b2 d1 =>
    have hh : (pl = 5 ∧ a = a2 ∧ b = b2) ∨ (pl = 2 ∧ a = a1 ∧ b = b1) := by simpa [St.plc] using hpl
    rcases hh with ⟨rfl, rfl, rfl⟩ | ⟨rfl, rfl, rfl⟩
    · refine ⟨_, _, updM_same _ _ _, by simp, ?_⟩
      rw [dn3]
      refine ⟨_, _, updM_same _ _ _, by simp, ?_⟩
      rw [dn4]
      conv => whnf
      refine ⟨sz 4 rfl (by decide), ?_⟩
      refine ⟨_, _, updM_same _ _ _, by simp, ?_⟩
      have e5 := dn5 (.int n) (.int ph) (.str src) (.bl (decide ((5 : Int) = 2))) (sideD g a b .non)
      unfold sideD at e5
      rw [e5]
      exact do_fin (h _ _ _ _ _)
    · refine ⟨_, _, updM_same _ _ _, by simp, ?_⟩
      rw [dn3]
      refine ⟨_, _, updM_same _ _ _, by simp, ?_⟩
      rw [dn4]
      conv => whnf
      refine ⟨sz 4 rfl (by decide), ?_⟩
      refine ⟨_, _, updM_same _ _ _, by simp, ?_⟩
      have e5 := dn5 (.int n) (.int ph) (.str nm) (.bl (decide ((2 : Int) = 2))) (sideD g a b .non)
      unfold sideD at e5
      rw [e5]
      exact do_fin (h _ _ _ _ _)
  | sum g nm a1 b1 src a2 b2 oth a3 b3 =>
    have hh : (pl = 5 ∧ a = a2 ∧ b = b2) ∨ (pl = 8 ∧ a = a3 ∧ b = b3) ∨ (pl = 2 ∧ a = a1 ∧ b = b1) := by simpa [St.plc] using hpl
    rcases hh with ⟨rfl, rfl, rfl⟩ | ⟨rfl, rfl, rfl⟩ | ⟨rfl, rfl, rfl⟩
    · refine ⟨_, _, updM_same _ _ _, by simp, ?_⟩
      rw [dn3]
      refine ⟨_, _, updM_same _ _ _, by simp, ?_⟩
      rw [dn4]
      conv => whnf
      refine ⟨sz 4 rfl (by decide), ?_⟩
      refine ⟨_, _, updM_same _ _ _, by simp, ?_⟩
      have e5 := dn5 (.int n) (.int ph) (.str src) (.bl (decide ((5 : Int) = 2))) (sideD g a b .non)
      unfold sideD at e5
      rw [e5]
      exact do_fin (h _ _ _ _ _)
    · refine ⟨_, _, updM_same _ _ _, by simp, ?_⟩
      rw [dn3]
      refine ⟨_, _, updM_same _ _ _, by simp, ?_⟩
      rw [dn4]
      conv => whnf
      refine ⟨sz 4 rfl (by decide), ?_⟩
      refine ⟨_, _, updM_same _ _ _, by simp, ?_⟩
      have e5 := dn5 (.int n) (.int ph) (.str oth) (.bl (decide ((8 : Int) = 2))) (sideD g a b .non)
      unfold sideD at e5
      rw [e5]
      exact do_fin (h _ _ _ _ _)
    · refine ⟨_, _, updM_same _ _ _, by simp, ?_⟩
      rw [dn3]
      refine ⟨_, _, updM_same _ _ _, by simp, ?_⟩
      rw [dn4]
      conv => whnf
      refine ⟨sz 4 rfl (by decide), ?_⟩
      refine ⟨_, _, updM_same _ _ _, by simp, ?_⟩
      have e5 := dn5 (.int n) (.int ph) (.str nm) (.bl (decide ((2 : Int) = 2))) (sideD g a b .non)
      unfold sideD at e5
      rw [e5]
      exact do_fin (h _ _ _ _ _)
/-- the access of a kernel with a number -/
def c_doing_at (A : Cls) : DSp := fun ds μ q e => ∃ (N : Int) (ss : List St) (bs : List Int) (k : Int), ds = [kD A N ss bs, .int k] ∧ bs.length ≤ 1000 ∧
  if 0 ≤ k ∧ k < ((accs ss).length : Nat) then ∀ g a b, (accs ss)[k.toNat]? = some (g, a, b) → ∀ y, isDo A g a b y → q y μ else e A.InvalidAccess (.int k) μ
theorem len_doing_at {A : Cls} : ∀ ds μ q e, c_doing_at A ds μ q e → ds.length = 2 := fun ds μ q e ⟨_, _, _, _, h, _⟩ => by rw [h]; rfl
theorem accs_cons (s : St) (r : List St) : accs (s :: r) = (s.plc.map fun p => (s.g, p.2)) ++ accs r := rfl
theorem accs_app (l r : List St) : accs (l ++ r) = accs l ++ accs r := by unfold accs; rw [List.flatMap_append]
/-- the table of the places -/
theorem plc_row {A : Cls} {s : St} {E : DEnds} {r : DTS} {δ : DS} {μ : Mu} (h4 : δ[4]? = some (some s.d)) (k : r E (δ.set 5 (some (.tup (s.plc.map fun p => D.int p.1)))) μ) :
    dSeq (dAsg (dOp (rKdIx A.d_ACCESSES tab_ACCESSES) (dC (.adr A.d_ACCESSES)) (dOp rIxG (dVar 4) (dC (.int 0)))) (dgName 5)) r E δ μ := by
  unfold dSeq dAsg dOp dVar
  dsimp only [dC]
  rw [h4]
  cases s <;> exact ⟨rfl, _, rfl, k⟩
theorem ok_doing_at {A : Cls} : ∀ ds μ q e, c_doing_at A ds μ q e → rd_doing_at A (c_Doing___init__ A) (c_Kernel_barriers A) (c_Kernel_statements A) (c_count_up_to A) e (endsD q) (startD 6 ds) μ := by
  rintro ds μ q e ⟨N, ss, bs, k, rfl, hbs, h⟩
  refine seq_asg ?_
  dsimp only [dgName]
  refine for_seq (δ := [some (kD A N ss bs), some (.int k), some (.int k), none, none, none]) (te := dCons (dProp A.Kernel (c_Kernel_statements A) (dVar 0)) dNil) (d := .lst (ss.map St.d)) (l := ss.map St.d) (.inr rfl) ?ht (fun i δ μ' => μ' = μ ∧ (k < 0 ∨ ((accs (ss.take i)).length : Nat) ≤ k) ∧ ∃ t3 t4 t5, δ = [some (kD A N ss bs), some (.int k), some (.int (k - ((accs (ss.take i)).length : Nat))), t3, t4, t5]) ⟨rfl, ?_, none, none, none, ?_⟩ ?_ ?_
  case ht => exact fun q k => ⟨rfl, N, _, bs, rfl, k⟩
  · simp [accs]; omega
  · have : k - (((accs (ss.take 0)).length : Nat) : Int) = k := by simp [accs]
    rw [this]
  · rintro i x δ μ' hi ⟨rfl, hk, t3, t4, t5, rfl⟩
    obtain ⟨s, hs, rfl⟩ := map_get hi
    have hlt := (List.getElem?_eq_some_iff.mp hs).1
    have e1 : accs ss = accs (ss.take i) ++ ((s.plc.map fun p => (s.g, p.2)) ++ accs (ss.drop (i + 1))) := by
      conv => lhs; rw [← List.take_append_drop i ss, accs_app, drop_get hs, accs_cons]
    have e2 : accs (ss.take (i + 1)) = accs (ss.take i) ++ (s.plc.map fun p => (s.g, p.2)) := by
      rw [List.take_add_one, hs, accs_app]
      simp [accs]
    have e3 : (accs (ss.take (i + 1))).length = (accs (ss.take i)).length + s.plc.length := by rw [e2, List.length_append, List.length_map]
    have e4 : (accs ss).length = (accs (ss.take i)).length + (s.plc.length + (accs (ss.drop (i + 1))).length) := by rw [e1, List.length_append, List.length_append, List.length_map]
    refine ⟨rfl, ?_⟩
    refine plc_row (s := s) (δ := [some (kD A N ss bs), some (.int k), some (.int (k - ((accs (ss.take i)).length : Nat))), some (.int (i : Nat)), some s.d, t5]) rfl ?_
    have e5 : (s.plc.map fun p => D.int p.1).length = s.plc.length := List.length_map ..
    show dSeq _ _ _ [some (kD A N ss bs), some (.int k), some (.int (k - ((accs (ss.take i)).length : Nat))), some (.int (i : Nat)), some s.d, some (.tup (s.plc.map fun p => D.int p.1))] μ'
    generalize hoff : (((accs (ss.take i)).length : Nat) : Int) = off at hk
    have nxt : k < 0 ∨ off + (s.plc.length : Nat) ≤ k → μ' = μ' ∧ (k < 0 ∨ ((accs (ss.take (i + 1))).length : Nat) ≤ k) ∧ ∃ u3 u4 u5, ([some (kD A N ss bs), some (.int k), some (.int (k - off - (((s.plc.map fun p => D.int p.1).length : Nat) : Int))), some (.int (i : Nat)), some s.d, some (.tup (s.plc.map fun p => D.int p.1))] : DS) = [some (kD A N ss bs), some (.int k), some (.int (k - ((accs (ss.take (i + 1))).length : Nat))), u3, u4, u5] := fun hk2 => by
      refine ⟨rfl, by rw [e3]; omega, some (.int (i : Nat)), some s.d, some (.tup (s.plc.map fun p => D.int p.1)), ?_⟩
      have : k - off - (((s.plc.map fun p => D.int p.1).length : Nat) : Int) = k - ((accs (ss.take (i + 1))).length : Nat) := by rw [e3, e5]; omega
      rw [this]
    refine iteD (fun z => ?_) (fun z => ?_)
    · refine iteD (fun z2 => ?_) (fun z2 => ?_)
      · have z : 0 ≤ k - off := z
        have z2 : k - off < (((s.plc.map fun p => D.int p.1).length : Nat) : Int) := z2
        obtain ⟨v, v1, v2⟩ := atI_some z z2
        obtain ⟨pl, p1, rfl⟩ := map_get v2
        obtain ⟨pl, a, b⟩ := pl
        have hin : 0 ≤ k ∧ k < ((accs ss).length : Nat) := by rw [e5] at z2; omega
        rw [if_pos hin] at h
        have hg : (accs ss)[k.toNat]? = some (s.g, a, b) := by
          have e6 : k.toNat = (accs (ss.take i)).length + (k - off).toNat := by omega
          rw [e1, e6, List.getElem?_append_right (by omega), Nat.add_sub_cancel_left, List.getElem?_append_left (by rw [List.length_map]; rw [e5] at z2; omega), List.getElem?_map, p1]; rfl
        have fin2 : ∀ y, isDo A s.g a b y → q y μ' := h s.g a b hg
        conv => whnf
        rw [v1]
        refine ⟨rfl, N, ss, bs, rfl, ?_⟩
        refine ⟨bs, _, rfl, hbs, fun ph => ?_⟩
        intro p hp
        refine ⟨p, k, s, pl, a, b, ph, rfl, List.mem_of_getElem? p1, updM_same _ _ _, fun x y w u t => ?_⟩
        refine ⟨rfl, dns, _, updM_same _ _ _, ?_⟩
        rw [updM_updM, delM_updM _ hp]
        exact fin (fin2 _ ⟨_, _, _, _, _, rfl⟩) rfl
      · have z2 : ¬ k - off < (((s.plc.map fun p => D.int p.1).length : Nat) : Int) := z2
        exact nxt (.inr (by rw [e5] at z2; omega))
    · have z : ¬ 0 ≤ k - off := z
      exact nxt (.inl (by omega))
  · rintro δ μ' ⟨rfl, hk, t3, t4, t5, rfl⟩
    rw [List.length_map, List.take_length] at hk
    rw [if_neg (by omega)] at h
    exact h
def c_check_size (A : Cls) : DSp := fun ds μ q e => ∃ w, ds = [.int w] ∧ if 1 ≤ w then q .non μ else e A.InvalidNumber (.int w) μ
theorem len_check_size {A : Cls} : ∀ ds μ q e, c_check_size A ds μ q e → ds.length = 1 := fun ds μ q e ⟨_, h, _⟩ => by rw [h]; rfl
theorem ok_check_size {A : Cls} : ∀ ds μ q e, c_check_size A ds μ q e → rd_check_size A e (endsD q) (startD 1 ds) μ := by
  rintro ds μ q e ⟨w, rfl, h⟩
  refine iteD (fun z => ?_) (fun z => ?_)
  · rw [if_neg (by omega)] at h; exact h
  rw [if_pos (by omega)] at h
  exact fin h rfl
/-! the sum of the floors -/
def c_sum_of_quotients (A : Cls) : DSp := fun ds μ q e => ∃ (n : Nat) (dv fa st : Int), ds = [.int (n : Nat), .int dv, .int fa, .int st] ∧ n < 2 ^ 120 ∧ 0 < dv ∧ dv < 2 ^ 80 ∧ (-(2 ^ 100) < fa ∧ fa < 2 ^ 100) ∧ (-(2 ^ 200) < st ∧ st < 2 ^ 200) ∧ q (.int (fs n dv fa st)) μ
theorem len_sum_of_quotients {A : Cls} : ∀ ds μ q e, c_sum_of_quotients A ds μ q e → ds.length = 4 := fun ds μ q e ⟨_, _, _, _, h, _⟩ => by rw [h]; rfl
theorem CM_big {i j : Int} {a b : Nat} (h : i.natAbs < 2 ^ a) (k : j.natAbs < 2 ^ b) (s : a + b ≤ 10000) : CMulD i j := ⟨a, b, h, k, by omega⟩
theorem ediv_abs {x d : Int} {n : Nat} (hd : 0 < d) (h : x.natAbs < 2 ^ n) : (x / d).natAbs < 2 ^ n := by
  have h1 := Int.emod_add_mul_ediv x d
  have h2 := Int.emod_nonneg x (show d ≠ 0 by omega)
  have h3 := Int.emod_lt_of_pos x hd
  rcases Int.lt_or_le x 0 with z | z
  · have q1 : x / d ≤ -1 := by
      refine Int.not_lt.mp fun w => ?_
      have := Int.mul_nonneg (show 0 ≤ d by omega) (show 0 ≤ x / d by omega)
      omega
    have k := Int.mul_nonneg (show 0 ≤ d - 1 by omega) (show 0 ≤ -1 - x / d by omega)
    rw [Int.mul_sub, Int.sub_mul, Int.sub_mul] at k
    omega
  · have u : x / d ≤ x := Int.ediv_le_self d z
    have l : 0 ≤ x / d := Int.ediv_nonneg z (by omega)
    omega
end Law

set_option linter.all false
set_option maxRecDepth 100000
set_option maxHeartbeats 1000000
namespace Law
open PySem L2 DL Ar
/-- where the walk of a sum stands -/
def SQ (T : Int) (μ0 : Mu) (m : Nat) (δ : DS) (μ : Mu) : Prop := μ = μ0 ∧ ∃ (n : Nat) (dv fa st tot : Int) (u : Option D), δ = [some (.int (n : Nat)), some (.int dv), some (.int fa), some (.int st), some (.int tot), u] ∧
  n < 2 ^ 120 ∧ (0 < dv ∨ n = 0) ∧ dv < 2 ^ 80 ∧ (-(2 ^ 100) < fa ∧ fa < 2 ^ 100) ∧ (-(2 ^ 200) < st ∧ st < 2 ^ 200) ∧ tot + fs n dv fa st = T ∧ m = dv.toNat
theorem sq_top {n : Nat} {dv f s : Int} (hd : 0 < dv) (f0 : 0 ≤ f) (f1 : f < dv) (s0 : 0 ≤ s) (s1 : s < dv) : 0 ≤ (f * (n : Int) + s) / dv ∧ (f * (n : Int) + s) / dv ≤ n ∧ (f = 0 → (f * (n : Int) + s) / dv = 0) := by
  have p := Int.mul_nonneg f0 (show 0 ≤ (n : Int) by omega)
  refine ⟨Int.ediv_nonneg (by omega) (by omega), ?_, fun z => ?_⟩
  · have k : f * (n : Int) ≤ (dv - 1) * (n : Int) := Int.mul_le_mul_of_nonneg_right (by omega) (by omega)
    rw [Int.sub_mul, Int.one_mul] at k
    have : (f * (n : Int) + s) / dv < (n : Int) + 1 := Int.ediv_lt_of_lt_mul hd (by rw [Int.add_mul, Int.one_mul, Int.mul_comm (n : Int) dv]; omega)
    omega
  · subst z
    rw [Int.zero_mul, Int.zero_add]
    exact Int.ediv_eq_zero_of_lt s0 s1
theorem ok_sum_of_quotients {A : Cls} : ∀ ds μ q e, c_sum_of_quotients A ds μ q e → rd_sum_of_quotients A e (endsD q) (startD 6 ds) μ := by
  rintro ds μ q e ⟨n, dv, fa, st, rfl, hn, d0, d1, ⟨f0, f1⟩, ⟨s0, s1⟩, h⟩
  refine ⟨SQ (fs n dv fa st) μ, ⟨_, rfl, n, dv, fa, st, 0, none, rfl, hn, .inl d0, d1, ⟨f0, f1⟩, ⟨s0, s1⟩, by omega, rfl⟩, ?_⟩
  rintro m δ μ' ⟨rfl, n, dv, fa, st, tot, u, rfl, hn, d0, d1, ⟨f0, f1⟩, ⟨s0, s1⟩, ht, rfl⟩
  refine iteD (fun z => ?_) (fun z => ?_)
  · have d0 : 0 < dv := by omega
    have cd : CDivD fa dv := CDiv_of d0 (by omega)
    have n120 : ((n : Nat) : Int).natAbs < 2 ^ 120 := by omega
    have r1 := mod_ne (a := fa) d0
    have r2 := mod_ne (a := st) d0
    have t := sq_top (n := n) d0 r1.1 r1.2 r2.1 r2.2
    have q1 := ediv_abs (n := 100) d0 (x := fa) (by omega)
    have q2 := ediv_abs (n := 200) d0 (x := st) (by omega)
    have q3 : (((n : Nat) : Int) * ((n : Int) - 1) / 2).natAbs < 2 ^ 240 := by
      refine ediv_abs (by decide) ?_
      rw [Int.natAbs_mul, show (240 : Nat) = 120 + 120 from rfl, Nat.pow_add]
      exact Nat.mul_lt_mul'' (by omega) (by omega)
    refine ⟨CM_big (a := 120) (b := 120) n120 (by omega) (by decide), CDiv_of (by decide) (by decide), cd, CM_big (a := 240) (b := 100) q3 q1 (by decide), ?_⟩
    refine ⟨CDiv_of d0 (by omega), CM_big (a := 120) (b := 200) n120 q2 (by decide), ?_⟩
    refine ⟨d0, d0, ?_⟩
    refine ⟨CM_big (a := 80) (b := 120) (by omega) n120 (by decide), ?_⟩
    refine ⟨CDiv_of d0 (by omega), d0, ?_⟩
    refine ⟨(fa % dv).toNat, by omega, rfl, ((fa % dv * (n : Int) + st % dv) / dv).toNat, fa % dv, dv, (fa % dv * (n : Int) + st % dv) % dv, tot + (((n : Nat) : Int) * ((n : Int) - 1) / 2 * (fa / dv) + (n : Int) * (st / dv)), some (.int (fa % dv * (n : Int) + st % dv)), ?_, ?_, ?_, ?_, ?_, ?_, ?_, rfl⟩
    · rw [Int.toNat_of_nonneg t.1]; rfl
    · omega
    · rcases Int.lt_or_le 0 (fa % dv) with w | w
      · exact .inl w
      · exact .inr (by have := t.2.2 (by omega); omega)
    · omega
    · exact ⟨by omega, by omega⟩
    · have := mod_ne (a := fa % dv * (n : Int) + st % dv) d0
      exact ⟨by omega, by omega⟩
    · rw [← fs_turn r1.1 r1.2 r2.1 r2.2, ← ht]
      have k := fs_take (n := n) (fa := fa) (st := st) d0
      omega
  · obtain rfl : n = 0 := by omega
    have : fs 0 dv fa st = 0 := rfl
    exact fin h (congrArg D.int (by omega))
end Law

set_option linter.all false
set_option maxRecDepth 100000
set_option maxHeartbeats 2000000
namespace Law
open PySem L2 DL Ar
theorem mul_abs {i j : Int} {a b n : Nat} (h : i.natAbs < 2 ^ a) (k : j.natAbs < 2 ^ b) (e : a + b = n) : (i * j).natAbs < 2 ^ n := by
  rw [Int.natAbs_mul, ← e, Nat.pow_add]; exact Nat.mul_lt_mul'' h k
def mkL (w S al be : Int) : LP := ⟨w, S, al, be⟩
def c_count_changes (A : Cls) : DSp := fun ds μ q e => ∃ (g : G4) (al be : Int) (u : D) (w S : Int), ds = [sideD g al be u, .int w, .int S] ∧ isG g.a g.b g.c g.d = true ∧ g.b < 2 ^ 110 ∧ (1 ≤ w ∧ w ≤ 32) ∧ (1 ≤ S ∧ S < 2 ^ 75) ∧ al.natAbs < 2 ^ 72 ∧ be.natAbs < 2 ^ 120 ∧ g.c < w ∧ ((al * g.c).natAbs : Int) < S ∧
  q (.int (sm ((mkL w S al be).ch (fst g.a g.c g.d) g.c) ((cnt g.a g.b g.c g.d).toNat - 1))) μ
theorem len_count_changes {A : Cls} : ∀ ds μ q e, c_count_changes A ds μ q e → ds.length = 3 := fun ds μ q e ⟨_, _, _, _, _, _, h, _⟩ => by rw [h]; rfl
theorem turns_int {P n p : Nat} (hP : 0 < P) (hp : p < n) : ((n : Int) - (p : Int) + (P : Int) - 1) / (P : Int) = ((turns P n p : Nat) : Int) := by
  unfold turns
  rw [Int.natCast_ediv]
  congr 1
  omega
theorem turns_le {P n p : Nat} (hP : 0 < P) (hp : p < n) : turns P n p ≤ n := by
  unfold turns
  rw [Nat.div_le_iff_le_mul_add_pred hP]
  have := Nat.mul_le_mul_right n (show 1 ≤ P by omega)
  omega
theorem min_int {P : Nat} {m : Int} (hm : 0 ≤ m) : (if m - 1 < (P : Int) then m - 1 else (P : Int)).toNat = min P (m.toNat - 1) := by
  split <;> omega
theorem abs_int (x : Int) : (if x < 0 then -x else x) = (x.natAbs : Int) := by split <;> omega
theorem ok_count_changes {A : Cls} : ∀ ds μ q e, c_count_changes A ds μ q e → rd_count_changes A (c_count_lanes A) (c_nth_lane A) (c_sum_of_quotients A) e (endsD q) (startD 17 ds) μ := by
  rintro ds μ q e ⟨⟨a, b, c, d⟩, al, be, u, w, S, rfl, hg, hb, ⟨w0, w1⟩, ⟨S0, S1⟩, ha, hbe, hc, hS, h⟩
  dsimp only at hg hb hc hS h
  obtain ⟨h1, h2, h3, h4⟩ := isG_iff.mp hg
  obtain ⟨cn, rfl⟩ : ∃ n : Nat, c = n := ⟨c.toNat, by omega⟩
  obtain ⟨wn, rfl⟩ : ∃ n : Nat, w = n := ⟨w.toNat, by omega⟩
  have c0 := cnt_nonneg (a := a) (b := b) (d := d) (show 0 < (cn : Int) by omega) h2
  have c1 := cnt_le (a := a) (b := b) (d := d) (show 0 < (cn : Int) by omega) h2
  have P0 : 0 < per cn wn := per_pos (by omega)
  have P1 : per cn wn ≤ 32 := Nat.le_trans (Nat.div_le_self _ _) (by omega)
  generalize hP : per cn wn = P at P0 P1
  have hch := LP.changes (L := mkL wn S al be) (f := fst a cn d) (c := cn) (P := P) (n := (cnt a b cn d).toNat - 1) (show 0 < (wn : Int) by omega) (show 0 < S by omega) hP.symm hS
  rw [hch] at h
  refine ⟨rfl, ?_⟩
  refine ⟨a, b, cn, d, rfl, ?_⟩
  rw [if_pos hg]
  refine ⟨by omega, ?_⟩
  have gc : 0 < Nat.gcd cn wn := Nat.gcd_pos_of_pos_right _ (by omega)
  have gl : Nat.gcd cn wn ≤ wn := Nat.le_of_dvd (by omega) (Nat.gcd_dvd_right cn wn)
  refine ⟨CDiv_of (i := (wn : Int)) (j := ((Nat.gcd cn wn : Nat) : Int)) (by omega) (by omega), ?_⟩
  refine ⟨fun i δ μ' => μ' = μ ∧ ∃ x11 x12 x13 x14 x15 x16, δ = [some (sideD ⟨a, b, cn, d⟩ al be u), some (.int wn), some (.int S), some (gd a b cn d), some (.int al), some (.int be), some u, some (.int cn), some (.int (cnt a b cn d - 1)), some (.int (P : Nat)), some (.int (sm ((mkL wn S al be).chg (fst a cn d) cn P ((cnt a b cn d).toNat - 1)) i)), x11, x12, x13, x14, x15, x16], ⟨rfl, none, none, none, none, none, none, ?_⟩, fun _ _ _ _ _ => trivial, ?_, ?_⟩
  · have e1 : ((wn : Int) / ((Nat.gcd cn wn : Nat) : Int)) = ((P : Nat) : Int) := by
      rw [← hP]; unfold per; rw [Int.natCast_ediv]
    rw [← e1]
    rfl
  · rintro i x δ μ' hi ⟨rfl, x11, x12, x13, x14, x15, x16, rfl⟩
    have e1 : ((wn : Int) / ((Nat.gcd cn wn : Nat) : Int)) = ((P : Nat) : Int) := by
      rw [← hP]; unfold per; rw [Int.natCast_ediv]
    obtain ⟨hi1, rfl⟩ := ints_get hi
    have hi2 : i < (if cnt a b cn d - 1 < (wn : Int) / ((Nat.gcd cn wn : Nat) : Int) then cnt a b cn d - 1 else (wn : Int) / ((Nat.gcd cn wn : Nat) : Int)).toNat := hi1
    rw [e1, min_int c0] at hi2
    have z0 : (0 : Int) + (i : Int) = (i : Int) := by omega
    rw [z0]
    refine ⟨a, b, cn, d, _, rfl, ?_⟩
    rw [if_pos hg]
    refine ⟨⟨by omega, by omega⟩, ?_⟩
    rw [if_pos (by omega)]
    have ln : fst a cn d + (i : Int) * (cn : Int) = lnk (fst a cn d) cn i := by unfold lnk; rw [Int.mul_comm]
    have lb := (cnt_lt (a := a) (b := b) (c := cn) (d := d) (k := (i : Int)) (by omega) (by omega)).mp (by omega)
    have la : 0 ≤ fst a cn d + (i : Int) * (cn : Int) := by
      have := fst_ge (a := a) (c := cn) (d := d) (by omega)
      have := Int.mul_nonneg (show 0 ≤ (i : Int) by omega) (show 0 ≤ (cn : Int) by omega)
      omega
    rw [ln] at lb la ⊢
    have lsx : lnk (fst a cn d) cn i + (cn : Int) = lnk (fst a cn d) cn (i + 1) := (lnk_succ _ _ _).symm
    refine ⟨CDiv_of (by omega) (by omega), CDiv_of (by omega) (by omega), ?_⟩
    refine iteD (fun z => ?_) (fun z => ?_)
    · rw [lsx] at z
      have ms : (al * lnk (fst a cn d) cn i).natAbs < 2 ^ 182 := mul_abs (a := 72) (b := 110) ha (by omega) rfl
      have mv : (al * (cn : Int)).natAbs < 2 ^ 75 := by omega
      have mp : (al * (cn : Int) * (P : Int)).natAbs < 2 ^ 85 := mul_abs (a := 75) (b := 10) mv (by omega) rfl
      have tt := turns_int (P := P) (n := (cnt a b cn d).toNat - 1) (p := i) P0 (by omega)
      have tl := turns_le (P := P) (n := (cnt a b cn d).toNat - 1) (p := i) P0 (by omega)
      rw [show (((cnt a b cn d).toNat - 1 : Nat) : Int) = cnt a b cn d - 1 by omega] at tt
      refine ⟨CDiv_of (by omega) (by omega), ?_⟩
      refine ⟨CM_big (a := 72) (b := 110) ha (by omega) (by decide), CM_big (a := 72) (b := 110) ha (by omega) (by decide), ?_⟩
      refine ⟨CM_big (a := 75) (b := 10) mv (by omega) (by decide), ?_⟩
      refine ⟨turns P ((cnt a b cn d).toNat - 1) i, S, al * (cn : Int) * (P : Int), al * lnk (fst a cn d) cn i + be, ?_, by omega, by omega, by omega, ⟨by omega, by omega⟩, ⟨by omega, by omega⟩, ?_⟩
      · rw [← tt]; rfl
      refine ⟨CM_big (a := 75) (b := 10) mv (by omega) (by decide), ?_⟩
      refine ⟨turns P ((cnt a b cn d).toNat - 1) i, S, al * (cn : Int) * (P : Int), al * lnk (fst a cn d) cn i + be + al * (cn : Int), ?_, by omega, by omega, by omega, ⟨by omega, by omega⟩, ⟨by omega, by omega⟩, ?_⟩
      · rw [← tt]; rfl
      refine ⟨rfl, some (.int (i : Int)), some (.int (lnk (fst a cn d) cn i)), some (.int ((cnt a b cn d - 1 - (i : Int) + (P : Int) - 1) / (P : Int))), some (.int (al * lnk (fst a cn d) cn i + be)), some (.int (al * (cn : Int))), some (.int (fs (turns P ((cnt a b cn d).toNat - 1) i) S (al * (cn : Int) * (P : Int)) (al * lnk (fst a cn d) cn i + be))), ?_⟩
      rw [abs_int]
      have e2 : sm ((mkL wn S al be).chg (fst a cn d) cn P ((cnt a b cn d).toNat - 1)) (i + 1) = sm ((mkL wn S al be).chg (fst a cn d) cn P ((cnt a b cn d).toNat - 1)) i + (mkL wn S al be).chg (fst a cn d) cn P ((cnt a b cn d).toNat - 1) i := rfl
      rw [e2]
      unfold LP.chg
      rw [if_pos (show lnk (fst a cn d) cn i / (mkL wn S al be).W = lnk (fst a cn d) cn (i + 1) / (mkL wn S al be).W from z)]
      rfl
    · rw [lsx] at z
      refine ⟨rfl, some (.int (i : Int)), some (.int (lnk (fst a cn d) cn i)), x13, x14, x15, x16, ?_⟩
      have e2 : sm ((mkL wn S al be).chg (fst a cn d) cn P ((cnt a b cn d).toNat - 1)) (i + 1) = sm ((mkL wn S al be).chg (fst a cn d) cn P ((cnt a b cn d).toNat - 1)) i := by
        show _ + (mkL wn S al be).chg (fst a cn d) cn P ((cnt a b cn d).toNat - 1) i = _
        have : (mkL wn S al be).chg (fst a cn d) cn P ((cnt a b cn d).toNat - 1) i = 0 := by
          unfold LP.chg
          exact if_neg z
        rw [this, Int.add_zero]
      rw [e2]
      rfl
  · rintro δ μ' ⟨rfl, x11, x12, x13, x14, x15, x16, rfl⟩
    have e1 : ((wn : Int) / ((Nat.gcd cn wn : Nat) : Int)) = ((P : Nat) : Int) := by
      rw [← hP]; unfold per; rw [Int.natCast_ediv]
    rw [ints_len]
    have e3 : (if cnt a b cn d - 1 < (wn : Int) / ((Nat.gcd cn wn : Nat) : Int) then cnt a b cn d - 1 else (wn : Int) / ((Nat.gcd cn wn : Nat) : Int)).toNat = min P ((cnt a b cn d).toNat - 1) := by rw [e1, min_int c0]
    refine fin h (congrArg D.int ?_)
    rw [← e3]
    rfl
end Law

set_option linter.all false
set_option maxRecDepth 100000
set_option maxHeartbeats 2000000
namespace Law
open PySem L2 DL Ar
theorem LP.WN_wwl {L : LP} {a b c d : Int} (hW : 0 < L.W) (hc : 0 < c) (hab : a ≤ b) : L.WN (fst a c d) c (cnt a b c d).toNat = wwl a b c d L.W := by
  have c0 := cnt_nonneg (a := a) (b := b) (d := d) hc hab
  unfold wwl
  by_cases z : cnt a b c d = 0
  · rw [if_pos (.inl z), z]; rfl
  · by_cases z2 : L.W ≤ c
    · rw [if_pos (.inr z2), LP.WN_all hW z2]; omega
    · rw [if_neg (fun h => h.elim z z2), LP.WN_eq hW (by omega) (by omega) (by omega)]
      unfold lnk
      rw [show (((cnt a b c d).toNat - 1 : Nat) : Int) = cnt a b c d - 1 by omega, Int.mul_comm c]
theorem LP.CG_far {L : LP} {a b c d : Int} (hW : 0 < L.W) (hS : 0 < L.S) (hc : 0 < c) (hab : a ≤ b) (h : L.W ≤ c ∨ L.S ≤ (L.al * c).natAbs) : L.CG a b c d = cnt a b c d := by
  have c0 := cnt_nonneg (a := a) (b := b) (d := d) hc hab
  unfold LP.CG
  rw [LP.CL_all L _ _ _ (fun k => h.elim (fun z => LP.bk_wave hW z) fun z => LP.bk_line hS z)]
  omega
theorem LP.CG_near {L : LP} {a b c d : Int} (hW : 0 < L.W) (hc : 0 < c) (hab : a ≤ b) : L.CG a b c d = wwl a b c d L.W + sm (L.ch (fst a c d) c) ((cnt a b c d).toNat - 1) := by
  unfold LP.CG
  rw [LP.CL_split, LP.WN_wwl hW hc hab]
theorem abs_mul (a c : Int) (hc : 0 ≤ c) : (if a < 0 then -a else a) * c = ((a * c).natAbs : Int) := by
  rw [Int.natAbs_mul, Int.natCast_mul, show (c.natAbs : Int) = c by omega, ← abs_int a]
/-- an access whose lines are counted -/
structure LnB (g : G4) (a b S : Int) : Prop where
  hg : isG g.a g.b g.c g.d = true
  hb : g.b < 2 ^ 110
  hc : g.c < 2 ^ 100
  s1 : S < 2 ^ 75
  ha : a.natAbs < 2 ^ 72
  hbe : b.natAbs < 2 ^ 120
def c_count_lines (A : Cls) : DSp := fun ds μ q e => ∃ (N : Int) (ss : List St) (bs : List Int) (k w S : Int), ds = [kD A N ss bs, .int k, .int w, .int S] ∧ bs.length ≤ 1000 ∧
  if 0 ≤ k ∧ k < ((accs ss).length : Nat) then (if 1 ≤ w ∧ w ≤ 32 then (if 1 ≤ S then ∀ g a b, (accs ss)[k.toNat]? = some (g, a, b) → LnB g a b S ∧ q (.int ((mkL w S a b).CG g.a g.b g.c g.d)) μ else e A.InvalidNumber (.int S) μ) else e A.InvalidNumber (.int w) μ) else e A.InvalidAccess (.int k) μ
theorem len_count_lines {A : Cls} : ∀ ds μ q e, c_count_lines A ds μ q e → ds.length = 4 := fun ds μ q e ⟨_, _, _, _, _, _, h, _⟩ => by rw [h]; rfl
theorem lines_rest {A : Cls} {e : DX} {q : DK} {μ : Mu} {x0 x1 x7 : Option D} {g : G4} {a b w S : Int} {u : D} (w0 : 1 ≤ w) (w1 : w ≤ 32) (s0 : 1 ≤ S) (hl : LnB g a b S) (h : q (.int ((mkL w S a b).CG g.a g.b g.c g.d)) μ) :
    (dSeq (dIfS (dOr (dTest (dOp rGeD (dOp rIxG (dVar 5) (dC (.int 2))) (dVar 2))) (dTest (dOp rGeD (dOp rMulD (dCB rAbsD (dCons (dVar 6) dNil)) (dOp rIxG (dVar 5) (dC (.int 2)))) (dVar 3)))) (dRet (dCall (c_count_lanes A) e [] (dCons (dVar 5) dNil))) dNext)
    (dRet (dOp rAddD (dCall (c_waves_with_lanes A) e [] (dCons (dVar 5) (dCons (dVar 2) dNil))) (dCall (c_count_changes A) e [] (dCons (dVar 4) (dCons (dVar 2) (dCons (dVar 3) dNil))))))) (endsD q) [x0, x1, some (.int w), some (.int S), some (sideD g a b u), some g.D, some (.int a), x7] μ := by
  obtain ⟨ga, gb, gc, gd'⟩ := g
  obtain ⟨hg, hb, hc, s1, ha, hbe⟩ := hl
  dsimp only at hg hb hc h
  obtain ⟨h1, h2, h3, h4⟩ := isG_iff.mp hg
  have hW : 0 < (mkL w S a b).W := show 0 < w by omega
  have hS : 0 < (mkL w S a b).S := show 0 < S by omega
  have far : (w ≤ gc ∨ S ≤ (a * gc).natAbs) → c_count_lanes A [gd ga gb gc gd'] μ (fun y μ1 => ∃ μ2, Sub μ2 μ1 ∧ q y μ2) e := fun z => by
    refine ⟨ga, gb, gc, gd', rfl, ?_⟩
    rw [if_pos hg]
    refine ⟨by omega, ?_⟩
    rw [LP.CG_far hW hS (by omega) h2 z] at h
    exact fin h rfl
  refine iteD (fun z => ?_) (fun z => ?_)
  · exact far (.inl z)
  refine ⟨CM_big (a := 72) (b := 100) (by split <;> omega) (by show gc.natAbs < 2 ^ 100; omega) (by decide), ?_⟩
  refine iteD (fun z2 => ?_) (fun z2 => ?_)
  · have z2 : S ≤ (if a < 0 then -a else a) * gc := z2
    rw [abs_mul a gc (by omega)] at z2
    exact far (.inr z2)
  have z : ¬ w ≤ gc := z
  have z2 : ¬ S ≤ (if a < 0 then -a else a) * gc := z2
  rw [abs_mul a gc (by omega)] at z2
  rw [LP.CG_near hW (by omega) h2] at h
  refine ⟨ga, gb, gc, gd', w, rfl, ⟨hg, by omega, by omega⟩, ⟨w0, w1⟩, ?_⟩
  refine ⟨⟨ga, gb, gc, gd'⟩, a, b, u, w, S, rfl, hg, hb, ⟨w0, w1⟩, ⟨s0, s1⟩, ha, hbe, by show gc < w; omega, by show ((a * gc).natAbs : Int) < S; omega, ?_⟩
  exact fin h rfl
theorem ok_count_lines {A : Cls} : ∀ ds μ q e, c_count_lines A ds μ q e → rd_count_lines A (c_check_size A) (c_check_wave A) (c_count_changes A) (c_count_lanes A) (c_doing_at A) (c_waves_with_lanes A) e (endsD q) (startD 8 ds) μ := by
  rintro ds μ q e ⟨N, ss, bs, k, w, S, rfl, hbs, h⟩
  refine ⟨N, ss, bs, k, rfl, hbs, ?_⟩
  by_cases hk : 0 ≤ k ∧ k < ((accs ss).length : Nat)
  · rw [if_pos hk] at h ⊢
    rintro g a b hg y ⟨x1, x2, x3, x4, u, rfl⟩
    refine ⟨rfl, _, rfl, ?_⟩
    refine ⟨w, rfl, ?_⟩
    by_cases hw : 1 ≤ w ∧ w ≤ 32
    · rw [if_pos hw] at h ⊢
      refine ⟨S, rfl, ?_⟩
      by_cases hS : 1 ≤ S
      · rw [if_pos hS] at h ⊢
        refine ⟨rfl, ?_⟩
        obtain ⟨hl, h⟩ := h g a b hg
        exact lines_rest hw.1 hw.2 hS hl h
      · rw [if_neg hS] at h ⊢; exact h
    · rw [if_neg hw] at h ⊢; exact h
  · rw [if_neg hk] at h ⊢; exact h
end Law

set_option linter.all false
set_option maxRecDepth 100000
set_option maxHeartbeats 2000000
/-! the lines of one wave, of any access -/
namespace Law
open PySem L2 DL Ar
theorem wave_no {x w n : Int} (hw : 0 < w) (h1 : w * n ≤ x) (h2 : x < w * n + w) : x / w = n := by
  have e : x = (x - w * n) + w * n := by omega
  rw [e, Int.add_mul_ediv_left _ _ (by omega), Int.ediv_eq_zero_of_lt (by omega) (by omega)]; omega
def c_lines_of_wave (A : Cls) : DSp := fun ds μ q e => ∃ (N : Int) (ss : List St) (bs : List Int) (k w S n : Int), ds = [kD A N ss bs, .int k, .int w, .int S, .int n] ∧ bs.length ≤ 1000 ∧ (-(2 ^ 200) < n ∧ n < 2 ^ 200) ∧
  if 0 ≤ k ∧ k < ((accs ss).length : Nat) then (if 1 ≤ w ∧ w ≤ 32 then (if 1 ≤ S then (if 0 ≤ n ∧ w * n < N then n < 2 ^ 100 ∧ ∀ g a b, (accs ss)[k.toNat]? = some (g, a, b) → LnB g a b S ∧ q (.int ((mkL w S a b).CG (wLo g.a w n) (wHi g.a g.b w n) g.c g.d)) μ
    else e A.InvalidNumber (.int n) μ) else e A.InvalidNumber (.int S) μ) else e A.InvalidNumber (.int w) μ) else e A.InvalidAccess (.int k) μ
theorem len_lines_of_wave {A : Cls} : ∀ ds μ q e, c_lines_of_wave A ds μ q e → ds.length = 5 := fun ds μ q e ⟨_, _, _, _, _, _, _, h, _⟩ => by rw [h]; rfl
theorem ok_lines_of_wave {A : Cls} : ∀ ds μ q e, c_lines_of_wave A ds μ q e → rd_lines_of_wave A (c_check_number_of_wave A) (c_check_size A) (c_check_wave A) (c_count_lanes A) (c_doing_at A) (c_lanes_of_wave A) (c_nth_lane A) e (endsD q) (startD 11 ds) μ := by
  rintro ds μ q e ⟨N, ss, bs, k, w, S, n, rfl, hbs, ⟨n0', n1'⟩, h⟩
  refine ⟨N, ss, bs, k, rfl, hbs, ?_⟩
  by_cases hk : 0 ≤ k ∧ k < ((accs ss).length : Nat)
  case neg => rw [if_neg hk] at h ⊢; exact h
  rw [if_pos hk] at h ⊢
  rintro ⟨ga, gb, gc, gd'⟩ a b hacc y ⟨x1, x2, x3, x4, u, rfl⟩
  refine ⟨rfl, _, rfl, ?_⟩
  refine ⟨rfl, ?_⟩
  refine ⟨w, rfl, ?_⟩
  by_cases hw : 1 ≤ w ∧ w ≤ 32
  case neg => rw [if_neg hw] at h ⊢; exact h
  rw [if_pos hw] at h ⊢
  obtain ⟨w0, w1⟩ := hw
  refine ⟨S, rfl, ?_⟩
  by_cases s0 : 1 ≤ S
  case neg => rw [if_neg s0] at h ⊢; exact h
  rw [if_pos s0] at h ⊢
  refine ⟨N, ss, bs, w, n, rfl, by omega, by omega, w0, w1, ?_⟩
  by_cases hn : 0 ≤ n ∧ w * n < N
  case neg => rw [if_neg hn] at h ⊢; exact h
  rw [if_pos hn] at h ⊢
  obtain ⟨n0, hn⟩ := hn
  obtain ⟨n1, h⟩ := h
  obtain ⟨⟨hg, hb, hc, s1, ha, hbe⟩, h⟩ := h _ a b hacc
  dsimp only at hg hb hc h
  obtain ⟨h1, h2, h3, h4⟩ := isG_iff.mp hg
  have wn : 0 ≤ w * n := Int.mul_nonneg (by omega) n0
  have wm : w * n ≤ 32 * n := Int.mul_le_mul_of_nonneg_right w1 n0
  refine ⟨ga, gb, gc, gd', w, n, rfl, ⟨w0, w1⟩, ⟨by omega, by omega⟩, ?_⟩
  have lo0 : 0 ≤ wLo ga w n ∧ w * n ≤ wLo ga w n := by unfold wLo mx; split <;> omega
  have hi0 : wLo ga w n ≤ wHi ga gb w n ∧ (wHi ga gb w n = wLo ga w n ∨ wHi ga gb w n ≤ gb ∧ wHi ga gb w n ≤ w * n + w) := by unfold wHi mx mn; split <;> split <;> omega
  have lo1 : wLo ga w n < 2 ^ 120 := by unfold wLo mx; split <;> omega
  generalize wLo ga w n = lo at h lo0 hi0 lo1 ⊢
  generalize wHi ga gb w n = hi at h hi0 ⊢
  have hg2 : isG lo hi gc gd' = true := isG_iff.mpr ⟨lo0.1, hi0.1, h3, h4⟩
  have c0 := cnt_nonneg (a := lo) (b := hi) (d := gd') (show 0 < gc by omega) hi0.1
  have c1 := cnt_le (a := lo) (b := hi) (d := gd') (show 0 < gc by omega) hi0.1
  have cw : cnt lo hi gc gd' ≤ 32 := by omega
  refine ⟨lo, hi, gc, gd', rfl, ?_⟩
  rw [if_pos hg2]
  refine ⟨by omega, ?_⟩
  refine ⟨fun i l μ' => μ' = μ ∧ l.length = i ∧ ∀ y, y ∈ l ↔ ∃ k, k < i ∧ (mkL w S a b).ln (lnk (fst lo gc gd') gc k) = y, ⟨rfl, rfl, fun y => by simp⟩, fun i l μ' hi hP => ⟨trivial, ?_⟩, ?_, ?_⟩
  · rw [ints_len] at hi
    have := hP.2.1
    omega
  · rintro i x l μ' hi2 ⟨rfl, hl, hm⟩
    obtain ⟨hi3, rfl⟩ := ints_get hi2
    have z0 : (0 : Int) + (i : Int) = (i : Int) := by omega
    rw [z0]
    refine ⟨lo, hi, gc, gd', _, rfl, ?_⟩
    rw [if_pos hg2]
    refine ⟨⟨by omega, by omega⟩, ?_⟩
    rw [if_pos (by omega)]
    have ln : fst lo gc gd' + (i : Int) * gc = lnk (fst lo gc gd') gc i := by unfold lnk; rw [Int.mul_comm]
    have lb := (cnt_lt (a := lo) (b := hi) (c := gc) (d := gd') (k := (i : Int)) (by omega) (by omega)).mp (by omega)
    have la : 0 ≤ fst lo gc gd' + (i : Int) * gc := by
      have := fst_ge (a := lo) (c := gc) (d := gd') (by omega)
      have := Int.mul_nonneg (show 0 ≤ (i : Int) by omega) (show 0 ≤ gc by omega)
      omega
    rw [ln] at lb la ⊢
    refine ⟨CM_big (a := 72) (b := 130) ha (by omega) (by decide), ?_⟩
    refine ⟨CDiv_of (by omega) (by omega), ?_⟩
    refine ⟨_, rfl, rfl, by simp [hl], fun y => ?_⟩
    rw [List.mem_append, hm y, List.mem_singleton]
    constructor
    · rintro (⟨k, hk, e⟩ | e)
      · exact ⟨k, by omega, e⟩
      · exact ⟨i, by omega, e.symm⟩
    · rintro ⟨k, hk, e⟩
      rcases Nat.lt_or_ge k i with z | z
      · exact .inl ⟨k, z, e⟩
      · obtain rfl : k = i := by omega
        exact .inr e.symm
  · rintro l μ' ⟨rfl, hl, hm⟩ out nd ho
    rw [ints_len] at hm
    refine fin h (congrArg D.int ?_)
    unfold LP.CG
    refine LP.one_wave (n := n) (show 0 < S by omega) (by omega) (fun k hk => ?_) nd fun y => by rw [ho y, hm y]
    have hi3 : hi ≤ w * n + w := by
      rcases hi0.2 with z | z
      · omega
      · exact z.2
    have ln : fst lo gc gd' + (k : Int) * gc = lnk (fst lo gc gd') gc k := by unfold lnk; rw [Int.mul_comm]
    have lb := (cnt_lt (a := lo) (b := hi) (c := gc) (d := gd') (k := (k : Int)) (by omega) (by omega)).mp (by omega)
    have la : lo ≤ fst lo gc gd' + (k : Int) * gc := by
      have := fst_ge (a := lo) (c := gc) (d := gd') (by omega)
      have := Int.mul_nonneg (show 0 ≤ (k : Int) by omega) (show 0 ≤ gc by omega)
      omega
    rw [ln] at lb la
    show lnk (fst lo gc gd') gc k / w = n
    exact wave_no (by omega) (by omega) (by omega)
end Law

set_option linter.all false
set_option maxRecDepth 100000
set_option maxHeartbeats 2000000
namespace Law
open PySem L2 DL Ar
structure BkB (g : G4) (a : Int) : Prop where
  hg : isG g.a g.b g.c g.d = true
  hb : g.b < 2 ^ 110
  hc : g.c < 2 ^ 100
  ha : a.natAbs < 2 ^ 72
def dg (v M l : Int) : Int := dgr l.toNat v M.toNat
theorem dg_zero (v M : Int) (h : 1 ≤ M) : dg v M 0 = 0 := dgr_zero v (by omega)
theorem dg_le {v M l : Int} (h : 1 ≤ M) (h0 : 0 ≤ l) : 0 ≤ dg v M l ∧ dg v M l ≤ l := by
  have := dgr_le (l := l.toNat) (v := v) (B := M.toNat) (by omega)
  unfold dg
  omega
def dgD (v M : Int) (z : Int × Int) : D := .tup [.int (dg v M z.1), .int z.2]
def c_degrees (A : Cls) : DSp := fun ds μ q e => ∃ (N : Int) (ss : List St) (bs : List Int) (k w M : Int), ds = [kD A N ss bs, .int k, .int w, .int M] ∧ bs.length ≤ 1000 ∧
  if 0 ≤ k ∧ k < ((accs ss).length : Nat) then (if 1 ≤ w ∧ w ≤ 32 then (if 1 ≤ M ∧ M ≤ 4096 then ∀ g a b, (accs ss)[k.toNat]? = some (g, a, b) → BkB g a ∧ ∀ zs, WB g.a g.b g.c g.d w zs → q (.lst (zs.map (dgD (a * g.c) M))) μ
    else e A.InvalidNumber (.int M) μ) else e A.InvalidNumber (.int w) μ) else e A.InvalidAccess (.int k) μ
theorem len_degrees {A : Cls} : ∀ ds μ q e, c_degrees A ds μ q e → ds.length = 4 := fun ds μ q e ⟨_, _, _, _, _, _, h, _⟩ => by rw [h]; rfl
theorem ok_degrees {A : Cls} : ∀ ds μ q e, c_degrees A ds μ q e → rd_degrees A (c_check_banks A) (c_check_wave A) (c_degree_of_lanes A) (c_doing_at A) (c_waves_by_lanes A) e (endsD q) (startD 9 ds) μ := by
  rintro ds μ q e ⟨N, ss, bs, k, w, M, rfl, hbs, h⟩
  refine ⟨N, ss, bs, k, rfl, hbs, ?_⟩
  by_cases hk : 0 ≤ k ∧ k < ((accs ss).length : Nat)
  case neg => rw [if_neg hk] at h ⊢; exact h
  rw [if_pos hk] at h ⊢
  rintro ⟨ga, gb, gc, gd'⟩ a b hacc y ⟨x1, x2, x3, x4, u, rfl⟩
  refine ⟨rfl, _, rfl, ?_⟩
  refine ⟨rfl, ?_⟩
  refine ⟨w, rfl, ?_⟩
  by_cases hw : 1 ≤ w ∧ w ≤ 32
  case neg => rw [if_neg hw] at h ⊢; exact h
  rw [if_pos hw] at h ⊢
  refine ⟨M, rfl, ?_⟩
  by_cases hM : 1 ≤ M ∧ M ≤ 4096
  case neg => rw [if_neg hM] at h ⊢; exact h
  rw [if_pos hM] at h ⊢
  obtain ⟨⟨hg, hb, hc, ha⟩, h⟩ := h _ a b hacc
  dsimp only at hg hb hc h
  obtain ⟨h1, h2, h3, h4⟩ := isG_iff.mp hg
  refine ⟨ga, gb, gc, gd', w, rfl, ⟨hg, by omega, by omega⟩, by omega, hw, fun zs hz => ?_⟩
  refine ⟨fun i l μ' => μ' = μ ∧ l = (zs.take i).map (dgD (a * gc) M), ⟨rfl, rfl⟩, fun i l μ' hi hP => ⟨trivial, ?_⟩, ?_, ?_⟩
  · have := hz.len
    rw [hP.2, List.length_map, List.length_take, sizeLine_eq]; omega
  · rintro i x l μ' hi ⟨hμ, rfl⟩
    obtain rfl := hμ.symm
    obtain ⟨z, hzi, rfl⟩ := map_get hi
    have nn := hz.nn z (List.mem_of_getElem? hzi)
    refine ⟨rfl, ?_⟩
    refine ⟨CM_big (a := 72) (b := 100) ha (by show gc.natAbs < 2 ^ 100; omega) (by decide), ?_⟩
    refine ⟨z.1, a * gc, M, rfl, nn.1.1, by omega, hM.1, hM.2, ?_⟩
    refine ⟨sz 2 rfl (by decide), rfl, ?_⟩
    rw [List.take_add_one, hzi, List.map_append]; rfl
  rintro l μ' ⟨hμ, rfl⟩
  obtain rfl := hμ.symm
  rw [List.length_map, List.take_length]
  exact fin (h zs hz) rfl
def c_degree_of_wave (A : Cls) : DSp := fun ds μ q e => ∃ (N : Int) (ss : List St) (bs : List Int) (k w M n : Int), ds = [kD A N ss bs, .int k, .int w, .int M, .int n] ∧ bs.length ≤ 1000 ∧ (-(2 ^ 200) < n ∧ n < 2 ^ 200) ∧
  if 0 ≤ k ∧ k < ((accs ss).length : Nat) then (if 1 ≤ w ∧ w ≤ 32 then (if 1 ≤ M ∧ M ≤ 4096 then (if 0 ≤ n ∧ w * n < N then ∀ g a b, (accs ss)[k.toNat]? = some (g, a, b) → BkB g a ∧ q (.int (dg (a * g.c) M (cnt (wLo g.a w n) (wHi g.a g.b w n) g.c g.d))) μ
    else e A.InvalidNumber (.int n) μ) else e A.InvalidNumber (.int M) μ) else e A.InvalidNumber (.int w) μ) else e A.InvalidAccess (.int k) μ
theorem len_degree_of_wave {A : Cls} : ∀ ds μ q e, c_degree_of_wave A ds μ q e → ds.length = 5 := fun ds μ q e ⟨_, _, _, _, _, _, _, h, _⟩ => by rw [h]; rfl
theorem ok_degree_of_wave {A : Cls} : ∀ ds μ q e, c_degree_of_wave A ds μ q e → rd_degree_of_wave A (c_check_banks A) (c_check_number_of_wave A) (c_check_wave A) (c_count_lanes A) (c_degree_of_lanes A) (c_doing_at A) (c_lanes_of_wave A) e (endsD q) (startD 8 ds) μ := by
  rintro ds μ q e ⟨N, ss, bs, k, w, M, n, rfl, hbs, ⟨n0', n1'⟩, h⟩
  refine ⟨N, ss, bs, k, rfl, hbs, ?_⟩
  by_cases hk : 0 ≤ k ∧ k < ((accs ss).length : Nat)
  case neg => rw [if_neg hk] at h ⊢; exact h
  rw [if_pos hk] at h ⊢
  rintro ⟨ga, gb, gc, gd'⟩ a b hacc y ⟨x1, x2, x3, x4, u, rfl⟩
  refine ⟨rfl, _, rfl, ?_⟩
  refine ⟨rfl, ?_⟩
  refine ⟨w, rfl, ?_⟩
  by_cases hw : 1 ≤ w ∧ w ≤ 32
  case neg => rw [if_neg hw] at h ⊢; exact h
  rw [if_pos hw] at h ⊢
  refine ⟨M, rfl, ?_⟩
  by_cases hM : 1 ≤ M ∧ M ≤ 4096
  case neg => rw [if_neg hM] at h ⊢; exact h
  rw [if_pos hM] at h ⊢
  refine ⟨N, ss, bs, w, n, rfl, by omega, by omega, hw.1, hw.2, ?_⟩
  by_cases hn : 0 ≤ n ∧ w * n < N
  case neg => rw [if_neg hn] at h ⊢; exact h
  rw [if_pos hn] at h ⊢
  obtain ⟨⟨hg, hb, hc, ha⟩, h⟩ := h _ a b hacc
  dsimp only at hg hb hc h
  obtain ⟨h1, h2, h3, h4⟩ := isG_iff.mp hg
  have w2 := win_ok (w := w) (n := n) hg (by omega) hn.1
  have w3 := isG_iff.mp w2
  have c0 := cnt_nonneg (a := wLo ga w n) (b := wHi ga gb w n) (d := gd') (show 0 < gc by omega) w3.2.1
  have c1 := cnt_le (a := wLo ga w n) (b := wHi ga gb w n) (d := gd') (show 0 < gc by omega) w3.2.1
  have c2 : wHi ga gb w n - wLo ga w n ≤ gb := by
    have : 0 ≤ w * n := Int.mul_nonneg (by omega) hn.1
    unfold wHi wLo mx mn; (repeat' split) <;> omega
  refine ⟨ga, gb, gc, gd', w, n, rfl, hw, ⟨by omega, by omega⟩, ?_⟩
  refine ⟨_, _, _, _, rfl, ?_⟩
  rw [if_pos w2]
  refine ⟨by omega, ?_⟩
  refine ⟨CM_big (a := 72) (b := 100) ha (by show gc.natAbs < 2 ^ 100; omega) (by decide), ?_⟩
  refine ⟨_, a * gc, M, rfl, c0, by omega, hM.1, hM.2, ?_⟩
  exact fin h rfl
def c_total_degree (A : Cls) : DSp := fun ds μ q e => ∃ (N : Int) (ss : List St) (bs : List Int) (k w M : Int), ds = [kD A N ss bs, .int k, .int w, .int M] ∧ bs.length ≤ 1000 ∧
  if 0 ≤ k ∧ k < ((accs ss).length : Nat) then (if 1 ≤ w ∧ w ≤ 32 then (if 1 ≤ M ∧ M ≤ 4096 then ∀ g a b, (accs ss)[k.toNat]? = some (g, a, b) → BkB g a ∧ ∀ r, (∀ n : Nat, g.b ≤ w * n → r = sm (fun i => dg (a * g.c) M (ci g.a g.b g.c g.d w i)) n) → q (.int r) μ
    else e A.InvalidNumber (.int M) μ) else e A.InvalidNumber (.int w) μ) else e A.InvalidAccess (.int k) μ
theorem len_total_degree {A : Cls} : ∀ ds μ q e, c_total_degree A ds μ q e → ds.length = 4 := fun ds μ q e ⟨_, _, _, _, _, _, h, _⟩ => by rw [h]; rfl
theorem ok_total_degree {A : Cls} : ∀ ds μ q e, c_total_degree A ds μ q e → rd_total_degree A (c_degrees A) e (endsD q) (startD 6 ds) μ := by
  rintro ds μ q e ⟨N, ss, bs, k, w, M, rfl, hbs, h⟩
  refine ⟨N, ss, bs, k, w, M, rfl, hbs, ?_⟩
  by_cases hk : 0 ≤ k ∧ k < ((accs ss).length : Nat)
  case neg => rw [if_neg hk] at h ⊢; exact h
  rw [if_pos hk] at h ⊢
  by_cases hw : 1 ≤ w ∧ w ≤ 32
  case neg => rw [if_neg hw] at h ⊢; exact h
  rw [if_pos hw] at h ⊢
  by_cases hM : 1 ≤ M ∧ M ≤ 4096
  case neg => rw [if_neg hM] at h ⊢; exact h
  rw [if_pos hM] at h ⊢
  intro g a b hacc
  obtain ⟨hB, h⟩ := h g a b hacc
  refine ⟨hB, fun zs hz => ?_⟩
  refine ⟨fun i l μ' => μ' = μ ∧ l = ((zs.take i).map fun z => dg (a * g.c) M z.1 * z.2).map D.int, ⟨rfl, rfl⟩, fun i l μ' hi hP => ⟨trivial, ?_⟩, ?_, ?_⟩
  · have := hz.len
    rw [hP.2, List.length_map, List.length_map, List.length_take, sizeLine_eq]; omega
  · rintro i x l μ' hi ⟨hμ, rfl⟩
    obtain rfl := hμ.symm
    obtain ⟨z, hzi, rfl⟩ := map_get hi
    have nn := hz.nn z (List.mem_of_getElem? hzi)
    have dl := dg_le (v := a * g.c) (l := z.1) hM.1 nn.1.1
    have hb := hB.hb
    refine ⟨rfl, ?_⟩
    refine ⟨CM_big (a := 72) (b := 110) (by omega) (by omega) (by decide), ?_⟩
    refine ⟨rfl, ?_⟩
    rw [List.take_add_one, hzi, List.map_append, List.map_append]; rfl
  rintro l μ' ⟨hμ, rfl⟩
  obtain rfl := hμ.symm
  rw [List.length_map, List.take_length]
  refine ⟨_, rfl, ?_⟩
  refine fin (h _ fun n hn => ?_) rfl
  exact hz.sum (dg (a * g.c) M) (dg_zero _ _ hM.1) n hn
def c_greatest_degree (A : Cls) : DSp := fun ds μ q e => ∃ (N : Int) (ss : List St) (bs : List Int) (k w M : Int), ds = [kD A N ss bs, .int k, .int w, .int M] ∧ bs.length ≤ 1000 ∧
  if 0 ≤ k ∧ k < ((accs ss).length : Nat) then (if 1 ≤ w ∧ w ≤ 32 then (if 1 ≤ M ∧ M ≤ 4096 then ∀ g a b, (accs ss)[k.toNat]? = some (g, a, b) → BkB g a ∧ ∀ r, (∀ i : Nat, dg (a * g.c) M (ci g.a g.b g.c g.d w i) ≤ r) → (r = 0 ∨ ∃ i : Nat, dg (a * g.c) M (ci g.a g.b g.c g.d w i) = r) → q (.int r) μ
    else e A.InvalidNumber (.int M) μ) else e A.InvalidNumber (.int w) μ) else e A.InvalidAccess (.int k) μ
theorem len_greatest_degree {A : Cls} : ∀ ds μ q e, c_greatest_degree A ds μ q e → ds.length = 4 := fun ds μ q e ⟨_, _, _, _, _, _, h, _⟩ => by rw [h]; rfl
theorem ok_greatest_degree {A : Cls} : ∀ ds μ q e, c_greatest_degree A ds μ q e → rd_greatest_degree A (c_degrees A) e (endsD q) (startD 6 ds) μ := by
  rintro ds μ q e ⟨N, ss, bs, k, w, M, rfl, hbs, h⟩
  refine ⟨N, ss, bs, k, w, M, rfl, hbs, ?_⟩
  by_cases hk : 0 ≤ k ∧ k < ((accs ss).length : Nat)
  case neg => rw [if_neg hk] at h ⊢; exact h
  rw [if_pos hk] at h ⊢
  by_cases hw : 1 ≤ w ∧ w ≤ 32
  case neg => rw [if_neg hw] at h ⊢; exact h
  rw [if_pos hw] at h ⊢
  by_cases hM : 1 ≤ M ∧ M ≤ 4096
  case neg => rw [if_neg hM] at h ⊢; exact h
  rw [if_pos hM] at h ⊢
  intro g a b hacc
  obtain ⟨hB, h⟩ := h g a b hacc
  refine ⟨hB, fun zs hz => ?_⟩
  obtain ⟨h1, h2, h3, h4⟩ := isG_iff.mp hB.hg
  have cw := fun i : Nat => ci_w (n := i) (d := g.d) (show 0 < g.c by omega) h2 (show 0 < w by omega)
  refine ⟨fun i l μ' => μ' = μ ∧ l = (((zs.take i).filter fun z => decide (z.2 > 0)).map fun z => dg (a * g.c) M z.1).map D.int, ⟨rfl, rfl⟩, fun i l μ' hi hP => ⟨trivial, ?_⟩, ?_, ?_⟩
  · have := hz.len
    have : ((zs.take i).filter fun z => decide (z.2 > 0)).length ≤ (zs.take i).length := List.length_filter_le _ _
    rw [List.length_take] at this
    rw [hP.2, List.length_map, List.length_map, sizeLine_eq]; omega
  · rintro i x l μ' hi ⟨hμ, rfl⟩
    obtain rfl := hμ.symm
    obtain ⟨z, hzi, rfl⟩ := map_get hi
    refine ⟨rfl, ?_⟩
    refine iteD (fun y => ?_) (fun y => ?_)
    · refine ⟨rfl, ?_⟩
      rw [List.take_add_one, hzi, Option.toList, List.filter_append, List.filter_cons_of_pos (by exact decide_eq_true y), List.map_append, List.map_append]; rfl
    · refine ⟨rfl, ?_⟩
      rw [List.take_add_one, hzi, Option.toList, List.filter_append, List.filter_cons_of_neg (by exact fun k => y (of_decide_eq_true k)), List.filter_nil, List.append_nil]
  rintro l μ' ⟨hμ, rfl⟩
  obtain rfl := hμ.symm
  rw [List.length_map, List.take_length]
  have mem : ∀ y, y ∈ ((zs.filter fun z => decide (z.2 > 0)).map fun z => dg (a * g.c) M z.1) ↔ ∃ z ∈ zs, 0 < z.2 ∧ dg (a * g.c) M z.1 = y := fun y => by
    rw [List.mem_map]
    constructor
    · rintro ⟨z, hz2, e2⟩
      obtain ⟨m1, m2⟩ := List.mem_filter.mp hz2
      exact ⟨z, m1, of_decide_eq_true m2, e2⟩
    · rintro ⟨z, m1, m2, e2⟩
      exact ⟨z, List.mem_filter.mpr ⟨m1, decide_eq_true m2⟩, e2⟩
  refine ⟨_, _, 0, rfl, rfl, rfl, fun m hm1 hm2 => ?_⟩
  have m0 : 0 ≤ m := by
    rcases Classical.em (((zs.filter fun z => decide (z.2 > 0)).map fun z => dg (a * g.c) M z.1) = []) with y | y
    · rw [hm1 y]; exact Int.le_refl 0
    · obtain ⟨z, z1, z2, z3⟩ := (mem m).mp (hm2 y).1
      rw [← z3]
      exact (dg_le hM.1 (hz.nn z z1).1.1).1
  refine fin (h m (fun i => ?_) ?_) rfl
  · rcases Int.lt_or_le 0 (ci g.a g.b g.c g.d w i) with y | y
    · obtain ⟨z, z1, z2, z3⟩ := hz.low i y
      have hin : dg (a * g.c) M (ci g.a g.b g.c g.d w i) ∈ ((zs.filter fun z => decide (z.2 > 0)).map fun z => dg (a * g.c) M z.1) := (mem _).mpr ⟨z, z1, z2, by rw [z3]⟩
      exact (hm2 (fun k => by rw [k] at hin; cases hin)).2 _ hin
    · have : ci g.a g.b g.c g.d w i = 0 := by have := cw i; omega
      rw [this, dg_zero _ _ hM.1]; exact m0
  · rcases Classical.em (((zs.filter fun z => decide (z.2 > 0)).map fun z => dg (a * g.c) M z.1) = []) with y | y
    · exact .inl (hm1 y)
    · obtain ⟨z, z1, z2, z3⟩ := (mem m).mp (hm2 y).1
      obtain ⟨i, hi⟩ := hz.up z z1 z2
      exact .inr ⟨i, by rw [hi]; exact z3⟩
end Law

set_option linter.all false
set_option maxRecDepth 100000
set_option maxHeartbeats 2000000
/-! sums and greatest values over the waves of a guard -/
namespace Law
open PySem L2 DL Ar
theorem ci_cut {x G y c d w : Int} {i : Nat} (hc : 0 < c) (hw : 0 < w) (h1 : x ≤ G) (h2 : G ≤ y) (hG : G % w = 0) :
    (ci x y c d w i = ci x G c d w i ∧ ci G y c d w i = 0) ∨ (ci x G c d w i = 0 ∧ ci x y c d w i = ci G y c d w i) := by
  obtain ⟨k, hk⟩ := Int.dvd_of_emod_eq_zero hG
  rcases Int.lt_or_le (w * (i : Int)) G with z | z
  · have e : w * (i : Int) + w ≤ G := by
      rw [hk] at z ⊢
      have : (i : Int) < k := Int.lt_of_mul_lt_mul_left z (by omega)
      have := Int.mul_le_mul_of_nonneg_left (show (i : Int) + 1 ≤ k by omega) (show 0 ≤ w by omega)
      rw [Int.mul_add] at this
      omega
    refine .inl ⟨?_, ci_lo hc h2 hw e⟩
    unfold ci
    have : wHi x y w i = wHi x G w i := by
      have m1 : mn (w * (i : Int) + w) y = w * i + w := by unfold mn; split <;> omega
      have m2 : mn (w * (i : Int) + w) G = w * i + w := by unfold mn; split <;> omega
      unfold wHi
      rw [m1, m2]
    rw [this]
  · refine .inr ⟨ci_hi hc h1 hw z, ?_⟩
    unfold ci
    have : wLo x w i = wLo G w i := by unfold wLo mx; split <;> split <;> omega
    unfold wHi
    rw [this]
theorem ci_shift {x y c d w P : Int} {k i : Nat} (hP : P % c = 0) (hk : P = w * k) : ci (x + P) (y + P) c d w (k + i) = ci x y c d w i := by
  have e : w * ((k + i : Nat) : Int) = w * i + P := by rw [hk, Int.natCast_add, Int.mul_add]; omega
  have l : wLo (x + P) w ((k + i : Nat) : Int) = wLo x w i + P := by
    unfold wLo; rw [e]; unfold mx; split <;> split <;> omega
  have h : wHi (x + P) (y + P) w ((k + i : Nat) : Int) = wHi x y w i + P := by
    unfold wHi; rw [l, e]
    generalize wLo x w i = z
    unfold mx mn
    (repeat' split) <;> omega
  unfold ci
  rw [l, h, cnt_per hP]
/-- over all waves -/
def WS (φ : Int → Int) (x y c d w : Int) : Int := sm (fun i => φ (ci x y c d w i)) y.toNat
section
variable {φ : Int → Int} {x y G c d w P : Int}
theorem WS_at (φ0 : φ 0 = 0) (hc : 0 < c) (h2 : x ≤ y) (hw : 0 < w) {n : Nat} (hn : y ≤ w * n) : sm (fun i => φ (ci x y c d w i)) n = WS φ x y c d w := by
  have z : ∀ (m k : Nat), y ≤ w * m → sm (fun i => φ (ci x y c d w i)) (m + k) = sm (fun i => φ (ci x y c d w i)) m := fun m k hm => by
    rw [sm_add, sm_zero (n := k) fun i _ => ?_, Int.add_zero]
    have : w * (m : Int) ≤ w * ((m + i : Nat) : Int) := Int.mul_le_mul_of_nonneg_left (by omega) (by omega)
    rw [ci_hi hc h2 hw (by omega), φ0]
  have hy : y ≤ w * (y.toNat : Nat) := by
    rcases Int.lt_or_le 0 y with q | q
    · have : 1 * y ≤ w * y := Int.mul_le_mul_of_nonneg_right (by omega) (by omega)
      rw [Int.toNat_of_nonneg (by omega)]; omega
    · have : 0 ≤ w * ((y.toNat : Nat) : Int) := Int.mul_nonneg (by omega) (by omega)
      omega
  unfold WS
  rw [← z n y.toNat hn, ← z y.toNat n hy, Nat.add_comm]
theorem WS_none (φ0 : φ 0 = 0) (hc : 0 < c) (hw : 0 < w) : WS φ x x c d w = 0 := by
  refine sm_zero fun i _ => ?_
  obtain ⟨c0, c1, c2⟩ := ci_le (n := i) (d := d) hc (Int.le_refl x) hw
  have b1 := bw_facts (n := i) (Int.le_refl x) hw
  have b2 := bw_facts (n := i + 1) (Int.le_refl x) hw
  rw [show ci x x c d w i = 0 by omega, φ0]
theorem WS_cut (φ0 : φ 0 = 0) (hc : 0 < c) (hw : 0 < w) (h1 : x ≤ G) (h2 : G ≤ y) (hG : G % w = 0) : WS φ x y c d w = WS φ x G c d w + WS φ G y c d w := by
  have big : ∀ z : Int, z ≤ y → z ≤ w * ((y.toNat : Nat) : Int) := fun z hz => by
    rcases Int.lt_or_le 0 y with q | q
    · have : 1 * y ≤ w * y := Int.mul_le_mul_of_nonneg_right (by omega) (by omega)
      rw [Int.toNat_of_nonneg (by omega)]; omega
    · have : 0 ≤ w * ((y.toNat : Nat) : Int) := Int.mul_nonneg (by omega) (by omega)
      omega
  rw [← WS_at φ0 hc h1 hw (big G h2), ← WS_at φ0 hc h2 hw (big y (Int.le_refl _)), ← sm_plus]
  refine sm_congr fun i _ => ?_
  rcases ci_cut (d := d) (i := i) hc hw h1 h2 hG with ⟨e1, e2⟩ | ⟨e1, e2⟩
  · rw [e1, e2, φ0, Int.add_zero]
  · rw [e1, e2, φ0, Int.zero_add]
theorem WS_shift (φ0 : φ 0 = 0) (hc : 0 < c) (hw : 0 < w) (h2 : x ≤ y) (hx : 0 ≤ x) (p0 : 0 ≤ P) (pW : P % w = 0) (pC : P % c = 0) : WS φ (x + P) (y + P) c d w = WS φ x y c d w := by
  obtain ⟨k, hk⟩ := Int.dvd_of_emod_eq_zero pW
  have k0 : 0 ≤ k := by
    rcases Int.lt_or_le k 0 with z | z
    · have := Int.mul_le_mul_of_nonneg_left (show k ≤ -1 by omega) (show 0 ≤ w by omega)
      omega
    · exact z
  obtain ⟨m, rfl⟩ : ∃ m : Nat, k = m := ⟨k.toNat, by omega⟩
  have hy : y ≤ w * (y.toNat : Nat) := by
    have : 1 * y ≤ w * y := Int.mul_le_mul_of_nonneg_right (by omega) (by omega)
    rw [Int.toNat_of_nonneg (by omega)]; omega
  rw [← WS_at φ0 hc (show x + P ≤ y + P by omega) hw (n := m + y.toNat) (by rw [Int.natCast_add, Int.mul_add]; omega), sm_add, sm_zero (n := m) fun i hi => ?_, Int.zero_add]
  · unfold WS
    refine sm_congr fun i _ => ?_
    rw [ci_shift pC hk]
  · have : w * ((i + 1 : Nat) : Int) ≤ w * m := Int.mul_le_mul_of_nonneg_left (by omega) (by omega)
    rw [w_succ] at this
    rw [ci_lo hc (by omega) hw (by omega), φ0]
theorem WS_times (φ0 : φ 0 = 0) (hc : 0 < c) (hw : 0 < w) (g0 : 0 ≤ G) (hG : G % w = 0) (p0 : 0 < P) (pW : P % w = 0) (pC : P % c = 0) {R : Int} (r0 : 0 ≤ R) : ∀ M : Nat, WS φ G (G + (P * M + R)) c d w = M * WS φ G (G + P) c d w + WS φ G (G + R) c d w
  | 0 => by rw [show P * ((0 : Nat) : Int) = 0 by simp, Int.zero_add, show (((0 : Nat) : Int)) * WS φ G (G + P) c d w = 0 by simp, Int.zero_add]
  | M + 1 => by
    have pm : 0 ≤ P * (M : Int) := Int.mul_nonneg (by omega) (by omega)
    have e : P * ((M + 1 : Nat) : Int) = P * M + P := by rw [Int.natCast_add, Int.mul_add]; simp
    rw [WS_cut (G := G + P) φ0 hc hw (by omega) (by rw [e]; omega) (by rw [Int.add_emod, hG, pW]; rfl), show G + (P * ((M + 1 : Nat) : Int) + R) = G + (P * M + R) + P by rw [e]; omega,
      WS_shift φ0 hc hw (by omega) g0 (by omega) pW pC, WS_times φ0 hc hw g0 hG p0 pW pC r0 M, Int.natCast_add, Int.add_mul]
    simp only [Int.natCast_one, Int.one_mul]
    omega
/-- the greatest over the waves -/
def GM (φ : Int → Int) (x y c d w r : Int) : Prop := (∀ i : Nat, φ (ci x y c d w i) ≤ r) ∧ (r = 0 ∨ ∃ i : Nat, φ (ci x y c d w i) = r)
theorem GM_one {r s : Int} (hp : ∀ l, 0 ≤ l → 0 ≤ φ l) (hc : 0 < c) (h2 : x ≤ y) (hw : 0 < w) (h : GM φ x y c d w r) (k : GM φ x y c d w s) : r = s := by
  have c0 := (ci_w (n := 0) (d := d) hc h2 hw).1
  have p := hp _ c0
  have a1 := h.1 0
  have a2 := k.1 0
  have l1 : r ≤ s := by
    rcases h.2 with z | ⟨i, z⟩
    · omega
    · rw [← z]; exact k.1 i
  have l2 : s ≤ r := by
    rcases k.2 with z | ⟨i, z⟩
    · omega
    · rw [← z]; exact h.1 i
  omega
theorem GM_cut {r s t : Int} (φ0 : φ 0 = 0) (hp : ∀ l, 0 ≤ l → 0 ≤ φ l) (hc : 0 < c) (hw : 0 < w) (h1 : x ≤ G) (h2 : G ≤ y) (hG : G % w = 0) (h : GM φ x G c d w r) (k : GM φ G y c d w s) (ht : t = if s > r then s else r) : GM φ x y c d w t := by
  have r0 : 0 ≤ r := Int.le_trans (hp _ (ci_w (n := 0) (d := d) hc h1 hw).1) (h.1 0)
  have s0 : 0 ≤ s := Int.le_trans (hp _ (ci_w (n := 0) (d := d) hc h2 hw).1) (k.1 0)
  refine ⟨fun i => ?_, ?_⟩
  · rcases ci_cut (d := d) (i := i) hc hw h1 h2 hG with ⟨e1, e2⟩ | ⟨e1, e2⟩
    · rw [e1, ht]; have := h.1 i; split <;> omega
    · rw [e2, ht]; have := k.1 i; split <;> omega
  · have val : ∀ {u : Int}, 0 < u → ((∃ i : Nat, φ (ci x G c d w i) = u) ∨ ∃ i : Nat, φ (ci G y c d w i) = u) → ∃ i : Nat, φ (ci x y c d w i) = u := fun {u} u0 hu => by
      rcases hu with ⟨i, e⟩ | ⟨i, e⟩
      · refine ⟨i, ?_⟩
        rcases ci_cut (d := d) (i := i) hc hw h1 h2 hG with ⟨e1, e2⟩ | ⟨e1, e2⟩
        · rw [e1]; exact e
        · rw [e1, φ0] at e; omega
      · refine ⟨i, ?_⟩
        rcases ci_cut (d := d) (i := i) hc hw h1 h2 hG with ⟨e1, e2⟩ | ⟨e1, e2⟩
        · rw [e2, φ0] at e; omega
        · rw [e2]; exact e
    rcases Int.lt_or_le 0 t with z | z
    · right
      split at ht
      · subst ht
        rcases k.2 with q | q
        · omega
        · exact val z (.inr q)
      · subst ht
        rcases h.2 with q | q
        · omega
        · exact val z (.inl q)
    · left; split at ht <;> omega
theorem GM_none (φ0 : φ 0 = 0) (hc : 0 < c) (hw : 0 < w) : GM φ x x c d w 0 := by
  refine ⟨fun i => ?_, .inl rfl⟩
  obtain ⟨c0, c1, c2⟩ := ci_le (n := i) (d := d) hc (Int.le_refl x) hw
  have b1 := bw_facts (n := i) (Int.le_refl x) hw
  have b2 := bw_facts (n := i + 1) (Int.le_refl x) hw
  rw [show ci x x c d w i = 0 by omega, φ0]
  exact Int.le_refl 0
theorem GM_shift {r : Int} (φ0 : φ 0 = 0) (hp : ∀ l, 0 ≤ l → 0 ≤ φ l) (hc : 0 < c) (hw : 0 < w) (h2 : x ≤ y) (hx : 0 ≤ x) (p0 : 0 ≤ P) (pW : P % w = 0) (pC : P % c = 0) (h : GM φ x y c d w r) : GM φ (x + P) (y + P) c d w r := by
  have r0 : 0 ≤ r := Int.le_trans (hp _ (ci_w (n := 0) (d := d) hc h2 hw).1) (h.1 0)
  obtain ⟨k, hk⟩ := Int.dvd_of_emod_eq_zero pW
  have k0 : 0 ≤ k := by
    rcases Int.lt_or_le k 0 with z | z
    · have := Int.mul_le_mul_of_nonneg_left (show k ≤ -1 by omega) (show 0 ≤ w by omega)
      omega
    · exact z
  obtain ⟨m, rfl⟩ : ∃ m : Nat, k = m := ⟨k.toNat, by omega⟩
  refine ⟨fun i => ?_, ?_⟩
  · rcases Nat.lt_or_ge i m with z | z
    · have : w * ((i + 1 : Nat) : Int) ≤ w * m := Int.mul_le_mul_of_nonneg_left (by omega) (by omega)
      rw [w_succ] at this
      rw [ci_lo hc (by omega) hw (by omega), φ0]; exact r0
    · obtain ⟨j, rfl⟩ : ∃ j, i = m + j := ⟨i - m, by omega⟩
      rw [ci_shift pC hk]; exact h.1 j
  · rcases h.2 with z | ⟨i, z⟩
    · exact .inl z
    · exact .inr ⟨m + i, by rw [ci_shift pC hk]; exact z⟩
theorem GM_times (φ0 : φ 0 = 0) (hp : ∀ l, 0 ≤ l → 0 ≤ φ l) (hc : 0 < c) (hw : 0 < w) (g0 : 0 ≤ G) (hG : G % w = 0) (p0 : 0 < P) (pW : P % w = 0) (pC : P % c = 0) {R r s : Int} (r0 : 0 ≤ R) (hr : GM φ G (G + P) c d w r) (hs : GM φ G (G + R) c d w s) :
    ∀ M : Nat, 0 < M → GM φ G (G + (P * M + R)) c d w (if s > r then s else r)
  | 0, h => absurd h (by decide)
  | M + 1, _ => by
    have pm : 0 ≤ P * (M : Int) := Int.mul_nonneg (by omega) (by omega)
    have e : P * ((M + 1 : Nat) : Int) = P * M + P := by rw [Int.natCast_add, Int.mul_add]; simp
    have e2 : G + (P * ((M + 1 : Nat) : Int) + R) = G + (P * M + R) + P := by rw [e]; omega
    rw [e2]
    rcases Nat.eq_zero_or_pos M with z | z
    · subst z
      have k := GM_shift φ0 hp hc hw (by omega) g0 (show 0 ≤ P by omega) pW pC hs
      rw [show P * ((0 : Nat) : Int) = 0 by simp, Int.zero_add]
      exact GM_cut (G := G + P) φ0 hp hc hw (by omega) (by omega) (by rw [Int.add_emod, hG, pW]; rfl) hr k rfl
    · have ih := GM_times φ0 hp hc hw g0 hG p0 pW pC r0 hr hs M z
      have k := GM_shift φ0 hp hc hw (by omega) g0 (show 0 ≤ P by omega) pW pC ih
      refine GM_cut (G := G + P) φ0 hp hc hw (by omega) (by omega) (by rw [Int.add_emod, hG, pW]; rfl) hr k ?_
      split <;> (try split) <;> omega
end
end Law

set_option linter.all false
set_option maxRecDepth 100000
set_option maxHeartbeats 2000000
/-! k76: the lanes of one wave, picked; what adds up when a guard is cut between two waves -/
namespace Law
open PySem L2 DL Ar
/-- of the lanes from lo on, those of a guard -/
def pk (x y c d lo : Int) (k : Nat) : List Int := ((List.range k).map fun i : Nat => lo + (i : Int)).filter fun l => decide ((x ≤ l ∧ l < y) ∧ l % c = d)
theorem pk_succ (x y c d lo : Int) (k : Nat) : pk x y c d lo (k + 1) = pk x y c d lo k ++ (if (x ≤ lo + k ∧ lo + k < y) ∧ (lo + k) % c = d then [lo + (k : Int)] else []) := by
  unfold pk
  rw [List.range_succ, List.map_append, List.filter_append]
  congr 1
  by_cases z : (x ≤ lo + k ∧ lo + k < y) ∧ (lo + k) % c = d
  · rw [if_pos z]; simp [z]
  · rw [if_neg z]
    show List.filter _ [lo + (k : Int)] = []
    rw [List.filter_cons, if_neg (by rw [decide_eq_true_eq]; exact z)]; rfl
theorem pk_eq (x y c d lo : Int) : ∀ k : Nat, pk x y c d lo k = lanes (mx lo x) (mn (lo + k) y - mx lo x).toNat c d
  | 0 => by
    have : (mn (lo + (0 : Nat)) y - mx lo x).toNat = 0 := by unfold mn mx; (repeat' split) <;> omega
    rw [this]; rfl
  | k + 1 => by
    rw [pk_succ, pk_eq x y c d lo k]
    by_cases z : x ≤ lo + k ∧ lo + k < y
    · have e1 : (mn (lo + (k + 1 : Nat)) y - mx lo x).toNat = (mn (lo + k) y - mx lo x).toNat + 1 := by
        unfold mn mx; (repeat' split) <;> omega
      have e2 : mx lo x + ((mn (lo + k) y - mx lo x).toNat : Int) = lo + k := by
        unfold mn mx; (repeat' split) <;> omega
      rw [e1, lanes_succ, e2]
      congr 1
      by_cases u : (lo + k) % c = d
      · rw [if_pos u, if_pos ⟨z, u⟩]
      · rw [if_neg u, if_neg fun v => u v.2]
    · have e1 : (mn (lo + (k + 1 : Nat)) y - mx lo x).toNat = (mn (lo + k) y - mx lo x).toNat := by
        unfold mn mx; (repeat' split) <;> omega
      rw [e1, if_neg fun v => z v.1, List.append_nil]
/-- the lanes of wave n -/
def wl (x y c d w n : Int) : List Int := lanes (wLo x w n) (wHi x y w n - wLo x w n).toNat c d
theorem pk_wave {N x y c d w n : Int} (hy : y ≤ N) (hN : w * n < N) (hw : 0 < w) : pk x y c d (n * w) ((if (n + 1) * w < N then (n + 1) * w else N) - n * w).toNat = wl x y c d w n := by
  rw [pk_eq]
  unfold wl wHi wLo
  rw [Int.add_mul, Int.one_mul, Int.mul_comm n w]
  generalize w * n = z at hN ⊢
  have ek : ((((if z + w < N then z + w else N) - z).toNat : Nat) : Int) = (if z + w < N then z + w else N) - z := by split <;> omega
  rw [ek]
  clear ek
  congr 1
  rcases Int.lt_or_le (z + w) N with q | q
  · rw [if_pos q]
    unfold mx mn
    (repeat' split) <;> omega
  rw [if_neg (by omega)]
  unfold mx mn
  (repeat' split) <;> omega
theorem wLo_le (x y w n : Int) : wLo x w n ≤ wHi x y w n := by unfold wHi mx; split <;> omega
theorem wl_len {x y c d w n : Int} (hc : 0 < c) (h0 : 0 ≤ d) (h1 : d < c) : ((wl x y c d w n).length : Int) = cnt (wLo x w n) (wHi x y w n) c d := lanes_cnt hc h0 h1 (wLo_le ..)
theorem wl_mem {x y c d w n l : Int} (hc : 0 < c) (h0 : 0 ≤ d) (h1 : d < c) : l ∈ wl x y c d w n ↔ ∃ k : Nat, k < (cnt (wLo x w n) (wHi x y w n) c d).toNat ∧ lnk (fst (wLo x w n) c d) c k = l := by
  have le := wLo_le x y w n
  unfold wl
  rw [lanes_eq hc h0 h1, show wLo x w n + ((wHi x y w n - wLo x w n).toNat : Int) = wHi x y w n by omega, List.mem_map]
  constructor
  · rintro ⟨k, hk, e⟩
    exact ⟨k, List.mem_range.mp hk, by unfold lnk; rw [Int.mul_comm]; exact e⟩
  · rintro ⟨k, hk, e⟩
    exact ⟨k, List.mem_range.mpr hk, by unfold lnk at e; rw [Int.mul_comm]; exact e⟩
theorem wl_wave {x y c d w n l : Int} (hw : 0 < w) (h : l ∈ wl x y c d w n) : l / w = n := by
  have le := wLo_le x y w n
  obtain ⟨h1, h2, _⟩ := mem_lanes.mp h
  have g1 : w * n ≤ wLo x w n := by unfold wLo mx; split <;> omega
  have g2 : wLo x w n < wHi x y w n → wHi x y w n ≤ w * n + w := by unfold wHi mx mn; intro z; (repeat' split at z) <;> (repeat' split) <;> omega
  exact wave_no hw (by omega) (by omega)
theorem wl_lines {a b x y c d w S n : Int} (hS : 0 < S) (hc : 0 < c) (h0 : 0 ≤ d) (h1 : d < c) (hw : 0 < w) {out : List Int} (nd : out.Nodup)
    (hm : ∀ v, v ∈ out ↔ v ∈ ((wl x y c d w n).map fun l => a * l + b).map (· / S)) : (out.length : Int) = (mkL w S a b).CG (wLo x w n) (wHi x y w n) c d := by
  unfold LP.CG
  refine LP.one_wave (n := n) hS hc (fun k hk => ?_) nd fun v => ?_
  · exact wl_wave hw ((wl_mem hc h0 h1).mpr ⟨k, hk, rfl⟩)
  · rw [hm v, List.map_map, List.mem_map]
    constructor
    · rintro ⟨l, hl, rfl⟩
      obtain ⟨k, hk, rfl⟩ := (wl_mem hc h0 h1).mp hl
      exact ⟨k, hk, rfl⟩
    · rintro ⟨k, hk, rfl⟩
      exact ⟨_, (wl_mem hc h0 h1).mpr ⟨k, hk, rfl⟩, rfl⟩
theorem wl_deg {a b x y c d w M n r : Int} (hc : 0 < c) (h0 : 0 ≤ d) (h1 : d < c) (hM : 0 < M) (h : Deg M ((wl x y c d w n).map fun l => a * l + b) r) : r = dg (a * c) M (cnt (wLo x w n) (wHi x y w n) c d) := by
  obtain ⟨ms, m1, m2, m3, m4⟩ := h
  have e : (((M.toNat : Nat)) : Int) = M := by omega
  refine deg_nbs (u := a * fst (wLo x w n) c d + b) (B := M.toNat) (by omega) ⟨ms, m1, fun v => ?_, by rw [e]; exact m3, by rw [e]; exact m4⟩
  rw [m2, List.mem_map, nbs_mem]
  have ln : ∀ j : Nat, a * lnk (fst (wLo x w n) c d) c j + b = a * fst (wLo x w n) c d + b + a * c * (j : Int) := fun j => by
    unfold lnk; rw [Int.mul_add, ← Int.mul_assoc]; omega
  constructor
  · rintro ⟨l, hl, rfl⟩
    obtain ⟨j, hj, rfl⟩ := (wl_mem hc h0 h1).mp hl
    exact ⟨j, hj, (ln j).symm⟩
  · rintro ⟨j, hj, rfl⟩
    exact ⟨_, (wl_mem hc h0 h1).mpr ⟨j, hj, rfl⟩, ln j⟩
/-! ### cut -/
def ind (l : Int) : Int := if l = 0 then 0 else 1
theorem wwl_WS {x y c d w : Int} (hc : 0 < c) (h0 : 0 ≤ d) (h1 : d < c) (ha : 0 ≤ x) (hab : x ≤ y) (hw : 0 < w) : WS ind x y c d w = wwl x y c d w := by
  have z : ∀ n, sm (fun i => ind (ci x y c d w i)) n = ne x y c d w n := fun n => by
    induction n with
    | zero => rfl
    | succ n ih =>
      show sm _ n + ind (ci x y c d w n) = ne x y c d w n + _
      rw [ih]
      congr 1
      unfold ind
      by_cases q : ci x y c d w n = 0
      · rw [if_pos q, if_neg (by simp [q])]
      · rw [if_neg q, if_pos q]
  unfold WS
  rw [z]
  refine ne_all hc h0 h1 ha hab hw ?_
  have : 1 * y ≤ w * y := Int.mul_le_mul_of_nonneg_right (by omega) (by omega)
  rw [Int.toNat_of_nonneg (by omega)]; omega
theorem ci_same {x c d w : Int} {i : Nat} (hc : 0 < c) (hw : 0 < w) : ci x x c d w i = 0 := by
  obtain ⟨c0, c1, c2⟩ := ci_le (n := i) (d := d) hc (Int.le_refl x) hw
  have b1 := bw_facts (n := i) (Int.le_refl x) hw
  have b2 := bw_facts (n := i + 1) (Int.le_refl x) hw
  omega
theorem fu_cut {N x G y c d w : Int} (hc : 0 < c) (hw : 0 < w) (h1 : x ≤ G) (h2 : G ≤ y) (hG : G % w = 0 ∨ G = y) : ∀ n : Nat, (∀ i : Nat, i < n → w * (i : Int) < N) → fu N x y c d w n = fu N x G c d w n + fu N G y c d w n
  | 0, _ => rfl
  | n + 1, h => by
    have hn := h n (by omega)
    have p : 0 < mn w (N - w * n) := by unfold mn; split <;> omega
    show fu N x y c d w n + _ = fu N x G c d w n + _ + (fu N G y c d w n + _)
    rw [fu_cut hc hw h1 h2 hG n fun i hi => h i (by omega)]
    have key : (ci x y c d w n = ci x G c d w n ∧ ci G y c d w n = 0) ∨ (ci x G c d w n = 0 ∧ ci x y c d w n = ci G y c d w n) := by
      rcases hG with hG | rfl
      · exact ci_cut hc hw h1 h2 hG
      · exact .inl ⟨rfl, ci_same hc hw⟩
    rcases key with ⟨e1, e2⟩ | ⟨e1, e2⟩
    · rw [e1, e2, if_neg (show ¬ (0 : Int) = mn w (N - w * n) by omega)]; omega
    · rw [e1, e2, if_neg (show ¬ (0 : Int) = mn w (N - w * n) by omega)]; omega
theorem fw_cut {N x G y c d w : Int} (hg : isG x y c d = true) (hN : 1 ≤ N) (hy : y ≤ N) (hw : 0 < w) (h1 : x ≤ G) (h2 : G ≤ y) (hG : G % w = 0 ∨ G = y) : fw N x y c d w = fw N x G c d w + fw N G y c d w := by
  obtain ⟨a1, a2, a3, a4⟩ := isG_iff.mp hg
  have n0 : 0 ≤ (N + w - 1) / w := Int.ediv_nonneg (by omega) (by omega)
  have hn : (((N + w - 1) / w).toNat : Int) = (N + w - 1) / w := by omega
  rw [← fu_eq hg hN hy hw hn, ← fu_eq (isG_iff.mpr ⟨a1, h1, a3, a4⟩) hN (by omega) hw hn, ← fu_eq (isG_iff.mpr ⟨by omega, h2, a3, a4⟩) hN hy hw hn]
  refine fu_cut (by omega) hw h1 h2 hG _ fun i hi => ?_
  have q : (i : Int) < (N + w - 1) / w := by omega
  have := (Int.lt_iff_add_one_le).mp q
  have m := Int.mul_le_of_le_ediv (show 0 < w from hw) this
  rw [Int.add_mul, Int.mul_comm] at m
  omega
theorem WS_cut2 {φ : Int → Int} {x G y c d w : Int} (φ0 : φ 0 = 0) (hc : 0 < c) (hw : 0 < w) (h1 : x ≤ G) (h2 : G ≤ y) (hG : G % w = 0 ∨ G = y) : WS φ x y c d w = WS φ x G c d w + WS φ G y c d w := by
  rcases hG with hG | rfl
  · exact WS_cut φ0 hc hw h1 h2 hG
  · rw [WS_none φ0 hc hw, Int.add_zero]
theorem CG_cut2 {L : LP} {x G y c d : Int} (hW : 0 < L.W) (hc : 0 < c) (h0 : 0 ≤ d) (h1 : d < c) (g1 : x ≤ G) (g2 : G ≤ y) (hG : G % L.W = 0 ∨ G = y) : L.CG x y c d = L.CG x G c d + L.CG G y c d := by
  rcases hG with hG | rfl
  · exact LP.CG_cut hW hc h0 h1 g1 g2 hG
  · rw [LP.CG_none hc, Int.add_zero]
/-- lines, degrees, waves, full waves -/
def far4 (N x y c d a b w S M : Int) : List Int := [(mkL w S a b).CG x y c d, WS (dg (a * c) M) x y c d w, wwl x y c d w, fw N x y c d w]
theorem far4_cut {N x G y c d a b w S M : Int} (hg : isG x y c d = true) (hN : 1 ≤ N) (hy : y ≤ N) (hw : 0 < w) (hM : 1 ≤ M) (h1 : x ≤ G) (h2 : G ≤ y) (hG : G % w = 0 ∨ G = y) :
    List.zipWith (· + ·) (far4 N x G c d a b w S M) (far4 N G y c d a b w S M) = far4 N x y c d a b w S M := by
  obtain ⟨a1, a2, a3, a4⟩ := isG_iff.mp hg
  have hc : 0 < c := by omega
  unfold far4
  rw [CG_cut2 (L := mkL w S a b) (x := x) (y := y) hw hc a3 a4 h1 h2 hG, WS_cut2 (x := x) (y := y) (dg_zero _ _ hM) hc hw h1 h2 hG, fw_cut hg hN hy hw h1 h2 hG,
    ← wwl_WS (x := x) (y := y) hc a3 a4 a1 a2 hw, ← wwl_WS (x := x) (y := G) hc a3 a4 a1 h1 hw, ← wwl_WS (x := G) (y := y) hc a3 a4 (by omega) h2 hw, WS_cut2 (x := x) (y := y) (φ := ind) rfl hc hw h1 h2 hG]
  rfl
theorem CG_le (L : LP) {x y c d : Int} (hc : 0 < c) (h : x ≤ y) : L.CG x y c d ≤ cnt x y c d := by
  have := L.CL_le (fst x c d) c (cnt x y c d).toNat
  unfold LP.CG
  have n : 0 ≤ cnt x y c d := cnt_nonneg hc h
  omega
end Law

set_option linter.all false
set_option maxRecDepth 100000
set_option maxHeartbeats 1000000
/-! U_BAG: _law_bag, _law_draw (the same text in all laws from k58 on, k70, k76 and others) -/
namespace Law
open PySem L2 DL
/-- a bag at p, its great numbers at g, behind at most n draws that were mixed -/
def Bag (p g : Addr) (μ : Mu) (n : Int) : Prop := ∃ (ns : List Int) (l t b : Int), μ p = some (.dic [(.inr "great", .adr g), (.inr "left", .int l), (.inr "turn", .int t), (.inr "blend", .int b)]) ∧ μ g = some (.lst (ns.map D.int)) ∧ g ≠ p ∧ (∀ z ∈ ns, 0 ≤ z) ∧ ns.length ≤ 64 ∧ 0 ≤ l ∧ 0 ≤ t ∧ t ≤ n ∧ 0 ≤ b ∧ b < 2 ^ 61
/-- all but p and g stands as it stood -/
def Ge2 (p g : Addr) (μ μ' : Mu) : Prop := ∀ a m, a ≠ p → a ≠ g → μ a = some m → μ' a = some m
theorem Ge2.refl {p g : Addr} {μ : Mu} : Ge2 p g μ μ := fun _ _ _ _ h => h
theorem Ge2.trans {p g : Addr} {μ μ1 μ2 : Mu} (h : Ge2 p g μ μ1) (k : Ge2 p g μ1 μ2) : Ge2 p g μ μ2 := fun a m z y e => k a m z y (h a m z y e)
theorem Bag.le {p g : Addr} {μ : Mu} {n m : Int} (h : Bag p g μ n) (k : n ≤ m) : Bag p g μ m := by
  obtain ⟨ns, l, t, b, h1, h2, h3, h4, h5, h6, h7, h8, h9⟩ := h
  exact ⟨ns, l, t, b, h1, h2, h3, h4, h5, h6, h7, by omega, h9⟩
theorem Bag.ne {p g r : Addr} {μ : Mu} {n : Int} (h : Bag p g μ n) (k : μ r = none) : r ≠ p ∧ r ≠ g := by
  obtain ⟨ns, l, t, b, h1, h2, _⟩ := h
  exact ⟨fun z => by rw [z, h1] at k; exact (nomatch k), fun z => by rw [z, h2] at k; exact (nomatch k)⟩
theorem Bag.at {p g : Addr} {μ μ' : Mu} {n : Int} (h : Bag p g μ n) (k : μ' p = μ p) (k2 : μ' g = μ g) : Bag p g μ' n := by
  obtain ⟨ns, l, t, b, h1, h2, h3⟩ := h
  exact ⟨ns, l, t, b, k.trans h1, k2.trans h2, h3⟩
theorem Bag.upd {p g r : Addr} {μ : Mu} {n : Int} {m : M} (h : Bag p g μ n) (k : μ r = none) : Bag p g (updM μ r m) n := h.at (updM_ne (h.ne k).1.symm) (updM_ne (h.ne k).2.symm)
def c__law_bag (A : Cls) : DSp := fun ds μ q e => ∃ ns : List Int, ds = [.rol (ns.map D.int)] ∧ ns.length < 64 ∧ ∀ p g μ', Bag p g μ' 0 → (∀ a m, μ a = some m → μ' a = some m) → q (.adr p) μ'
theorem len__law_bag {A : Cls} : ∀ ds μ q e, c__law_bag A ds μ q e → ds.length = 1 := fun ds μ q e ⟨_, h, _⟩ => by rw [h]; rfl
theorem ok__law_bag {A : Cls} : ∀ ds μ q e, c__law_bag A ds μ q e → rd__law_bag A e (endsD q) (startD 4 ds) μ := by
  rintro ds μ q e ⟨ns, rfl, hl, h⟩
  refine ⟨sz 0 rfl (by decide), fun g hg => ?_⟩
  refine ⟨fun i δ μ' => ∃ b x3 gs, δ = [some (.rol (ns.map D.int)), some (.int b), some (.adr g), x3] ∧ 0 ≤ b ∧ b < 2 ^ 61 ∧ μ' g = some (.lst (gs.map D.int)) ∧ (∀ z ∈ gs, 0 ≤ z) ∧ gs.length ≤ i ∧ (∀ a m, μ a = some m → μ' a = some m), ⟨11, none, [], rfl, by decide, by decide, updM_same _ _ _, fun _ z => (nomatch z), Nat.le_refl _, fun a m z => ?_⟩, fun _ _ _ _ _ => trivial, ?_, ?_⟩
  · have : a ≠ g := fun y => by rw [y, hg] at z; cases z
    exact (updM_ne this).trans z
  · rintro i d δ μ' hi ⟨b, x3, gs, rfl, b0, b1, hm, hz, hgl, keep⟩
    obtain ⟨x, hx, rfl⟩ := map_get hi
    have il : i < ns.length := (List.getElem?_eq_some_iff.mp hx).1
    refine ⟨CMul_of (by omega) (by omega) (by omega) (by omega), (by decide : (0 : Int) < 2305843009213693951), ?_⟩
    have r := mod_ne (a := b * 1000003 + x) (b := 2305843009213693951) (by decide)
    refine ⟨CPow_of (j := 18) (by decide) (by decide) (by decide), ?_⟩
    refine iteD (fun z => ?_) (fun z => ?_)
    · refine ⟨⟨_, hm⟩, _, hm, ?_, ?_⟩
      · rw [List.length_map, sizeLine_eq]; omega
      · refine ⟨_, _, gs ++ [if x < 0 then -x else x], rfl, r.1, by omega, ?_, ?_, ?_, ?_⟩
        · rw [updM_same, List.map_append]; rfl
        · intro y hy
          rcases List.mem_append.mp hy with k | k
          · exact hz y k
          · obtain rfl := List.mem_singleton.mp k
            split <;> omega
        · rw [List.length_append]; show gs.length + 1 ≤ _; omega
        · intro a m k
          have : a ≠ g := fun y => by rw [y, hg] at k; cases k
          exact (updM_ne this).trans (keep a m k)
    · exact ⟨_, _, gs, rfl, r.1, by omega, hm, hz, by omega, keep⟩
  · rintro δ μ' ⟨b, x3, gs, rfl, b0, b1, hm, hz, hgl, keep⟩
    have hgl : gs.length ≤ 63 := by rw [List.length_map] at hgl; omega
    intro p hp
    have ne : g ≠ p := fun z => by rw [z, hp] at hm; cases hm
    refine ⟨updM_same _ _ _, fun _ => ?_⟩
    refine fin (h p g _ ⟨gs, 0, 0, b, updM_same _ _ _, ?_, ne, hz, by omega, by decide, by decide, by decide, b0, b1⟩ fun a m k => ?_) rfl
    · rw [updM_ne ne, updM_ne ne]; exact hm
    · have := keep a m k
      have z : a ≠ p := fun z => by rw [z, hp] at this; cases this
      rw [updM_ne z, updM_ne z]; exact this
theorem lst_adr {μ : Mu} {p : Addr} {l : List D} (h : μ p = some (.lst l)) : lstOf μ (.adr p) = some l := by simp [lstOf, h]
def c__law_draw (A : Cls) : DSp := fun ds μ q e => ∃ p g m n, ds = [.adr p, .int m] ∧ Bag p g μ n ∧ n < 2 ^ 60 ∧ 0 < m ∧ m < 2 ^ 256 ∧ ∀ x μ', 0 ≤ x → x < m → Bag p g μ' (n + 1) → Ge2 p g μ μ' → q (.int x) μ'
theorem len__law_draw {A : Cls} : ∀ ds μ q e, c__law_draw A ds μ q e → ds.length = 2 := fun ds μ q e ⟨_, _, _, _, h, _⟩ => by rw [h]; rfl
theorem draw_rest {p g : Addr} {m n : Int} {μ : Mu} {q : DK} (hb : Bag p g μ n) (hn : n < 2 ^ 60) (m0 : 0 < m) (m1 : m < 2 ^ 256) (h : ∀ x μ', 0 ≤ x → x < m → Bag p g μ' (n + 1) → Ge2 p g μ μ' → q (.int x) μ') :
    (dSeq (dIfS (dTest (dOp rGeD (dDGet (dVar 0) (dC (.str "left"))) (dVar 1))) (dSeq (dAsg (dOp rModD (dDGet (dVar 0) (dC (.str "left"))) (dVar 1)) (dgName 2))
    (dSeq (dsDPut (dVar 0) (dC (.str "left")) (dOp rDivD (dDGet (dVar 0) (dC (.str "left"))) (dVar 1)))
    (dRet (dVar 2)))) dNext)
    (dSeq (dsDAug (dVar 0) (dC (.str "turn")) (dC (.int 1)))
    (dSeq (dAsg (dDGet (dVar 0) (dC (.str "turn"))) (dgName 3))
    (dSeq (dAsg (dOp rAddD (dOp rMulD (dOp rAddD (dDGet (dVar 0) (dC (.str "blend"))) (dOp rMulD (dC (.int 17)) (dVar 3))) (dOp rPowD (dOp rAddD (dVar 3) (dC (.int 29))) (dC (.int 2)))) (dOp rMulD (dC (.int 7919)) (dVar 3))) (dgName 4))
    (dRet (dOp rModD (dOp rDivD (dOp rModD (dOp rPowD (dOp rModD (dVar 4) (dC (.int 2305843009213693951))) (dC (.int 3))) (dOp rAddD (dOp rPowD (dC (.int 10)) (dC (.int 18))) (dC (.int 9)))) (dC (.int 64))) (dVar 1))))))) (endsD q) [some (.adr p), some (.int m), none, none, none] μ := by
  obtain ⟨ns, l, t, b, h1, h2, ne, hz, hl, l0, t0, t1, b0, b1⟩ := hb
  refine ⟨_, _, .inl h1, rfl, ?_⟩
  refine iteD (fun z => ?_) (fun z => ?_)
  · refine ⟨_, _, .inl h1, rfl, m0, ?_⟩
    have r := mod_ne (a := l) m0
    refine ⟨_, _, .inl h1, rfl, CDiv_of m0 m1, ?_⟩
    refine ⟨_, h1, by rw [sizeLine_eq]; show 4 < 16777216; decide, ?_⟩
    refine fin (h (l % m) _ r.1 r.2 ⟨ns, l / m, t, b, updM_same _ _ _, ?_, ne, hz, hl, Int.ediv_nonneg l0 (by omega), t0, by omega, b0, b1⟩ fun a x k1 k2 k => ?_) rfl
    · rw [updM_ne ne]; exact h2
    · rw [updM_ne k1]; exact k
  · refine ⟨_, t, h1, rfl, _, h1, by rw [sizeLine_eq]; show 4 < 16777216; decide, ?_⟩
    refine ⟨_, _, .inl (updM_same _ _ _), rfl, ?_⟩
    refine ⟨_, _, .inl (updM_same _ _ _), rfl, ?_⟩
    refine ⟨CMul_of (by omega) (by omega) (by omega) (by omega), ?_⟩
    refine ⟨CPow_of (i := t + 1 + 29) (j := 2) (by omega) (by omega) (by decide), ?_⟩
    have bd : (t + 1 + 29) ^ (2 : Int).toNat < 2 ^ 130 := by
      show (t + 1 + 29) ^ 2 < _
      have : (t + 1 + 29) * (t + 1 + 29) ≤ 2 ^ 61 * 2 ^ 61 := Int.mul_le_mul (by omega) (by omega) (by omega) (by decide)
      rw [Int.pow_succ, Int.pow_succ, Int.pow_zero, Int.one_mul]
      omega
    have bd0 : 0 ≤ (t + 1 + 29) ^ (2 : Int).toNat := Int.pow_nonneg (by omega)
    refine ⟨CMul_of (by omega) (by omega) (by omega) (by omega), ?_⟩
    refine ⟨CMul_of (by omega) (by omega) (by omega) (by omega), ?_⟩
    refine ⟨(by decide : (0 : Int) < 2305843009213693951), ?_⟩
    generalize (b + 17 * (t + 1)) * (t + 1 + 29) ^ (2 : Int).toNat + 7919 * (t + 1) = y
    have r1 := mod_ne (a := y) (b := 2305843009213693951) (by decide)
    refine ⟨CPow_of (j := 3) (by omega) (by omega) (by decide), ?_⟩
    refine ⟨CPow_of (j := 18) (by decide) (by decide) (by decide), ?_⟩
    refine ⟨(by decide : (0 : Int) < 10 ^ (18 : Int).toNat + 9), ?_⟩
    refine ⟨CDiv_of (by decide) (by decide), m0, ?_⟩
    generalize (y % 2305843009213693951) ^ (3 : Int).toNat % (10 ^ (18 : Int).toNat + 9) / 64 = w
    have r := mod_ne (a := w) m0
    refine fin (h _ _ r.1 r.2 ⟨ns, l, t + 1, b, updM_same _ _ _, ?_, ne, hz, hl, l0, by omega, by omega, b0, b1⟩ fun a x k1 k2 k => ?_) rfl
    · rw [updM_ne ne]; exact h2
    · rw [updM_ne k1]; exact k
theorem ok__law_draw {A : Cls} : ∀ ds μ q e, c__law_draw A ds μ q e → rd__law_draw A e (endsD q) (startD 5 ds) μ := by
  rintro ds μ q e ⟨p, g, m, n, rfl, hb, hn, m0, m1, h⟩
  obtain ⟨ns, l, t, b, h1, h2, ne, hz, hl, l0, t0, t1, b0, b1⟩ := id hb
  refine ⟨_, _, .inl h1, rfl, ?_⟩
  refine iteD (fun z => ?_) (fun z => ?_)
  · refine ⟨_, _, .inl h1, rfl, ?_⟩
    show (match lstOf μ (.adr g) with | some l => _ | none => False)
    rw [lst_adr h2]
    cases ns with
    | nil =>
      exact draw_rest hb hn m0 m1 h
    | cons x ns =>
      refine iteDT (by show (0 : Int) < (((x :: ns).map D.int).length : Nat); rw [List.length_map, List.length_cons]; omega) ?_
      refine ⟨_, _, .inl h1, rfl, ⟨_, h2⟩, rfl, _, _, h2, ?_⟩
      refine ⟨_, (updM_ne ne.symm).trans h1, by rw [sizeLine_eq]; show 4 < 16777216; decide, ?_⟩
      have hx := hz x List.mem_cons_self
      refine draw_rest (n := n) ⟨ns, x, t, b, updM_same _ _ _, ?_, ne, fun y k => hz y (List.mem_cons_of_mem _ k), by rw [List.length_cons] at hl; omega, hx, t0, t1, b0, b1⟩ hn m0 m1 fun y μ' y0 y1 k1 k2 => h y μ' y0 y1 k1 fun a w e1 e2 k => k2 a w e1 e2 ?_
      · rw [updM_ne ne, updM_same]
      · rw [updM_ne e1, updM_ne e2]; exact k
  · exact draw_rest hb hn m0 m1 h
end Law

set_option linter.all false
set_option maxRecDepth 100000
set_option maxHeartbeats 2000000
namespace Law
open PySem L2 DL Ar
theorem szA {l m : List D} (h : Nat.ble (l.length + m.length) 1000 = true) : l.length + m.length ≤ sizeLine := by have := Nat.le_of_ble_eq_true h; rw [sizeLine_eq]; omega
theorem nm_x : nmOk "x" = true := by decide +kernel
theorem ln_x : Str.length "x" ≤ 1000 := by decide +kernel
structure FG (N x y c d : Int) : Prop where
  g : isG x y c d = true
  y : y ≤ N
  n : 1 ≤ N
  m : N ≤ 1000000000000000000000000000000
  c : c ≤ 100000000000000000000000000000
structure FQ (N x y c d a b w S M : Int) : Prop extends FG N x y c d where
  a0 : -100000000000000 ≤ a
  a1 : a ≤ 100000000000000
  b0 : 0 ≤ b
  b1 : b ≤ 1000000000000
  w0 : 1 ≤ w
  w1 : w ≤ 32
  s0 : 1 ≤ S
  s1 : S ≤ 1000000000000
  M0 : 1 ≤ M
  M1 : M ≤ 4096
def farS (x y c d a b : Int) : List St := [.put ⟨x, y, c, d⟩ "x" a b 0 0]
theorem far_ok {N x y c d a b : Int} (h : FG N x y c d) : kOk N (farS x y c d a b) [] := by
  refine ⟨h.n, fun t ht => ?_, (by decide : 1 ≤ 1000), (by decide : 0 ≤ 1000), trivial⟩
  obtain rfl := List.mem_singleton.mp ht
  refine ⟨?_, fun z hz => ?_⟩
  · unfold St.ok
    rw [Bool.and_eq_true, Bool.and_eq_true, List.all_eq_true]
    refine ⟨fun z hz => ?_, h.g, decide_eq_true h.y⟩
    obtain rfl := List.mem_singleton.mp hz
    exact nm_x
  · obtain rfl := List.mem_singleton.mp hz
    exact ln_x
theorem far_st {N x y c d a b : Int} (h : FG N x y c d) : stOk N (farS x y c d a b) := by
  intro t ht
  obtain rfl := List.mem_singleton.mp ht
  have := h.c
  have := h.y
  have := h.m
  exact ⟨by show c < _; omega, by show y < _; omega⟩
theorem acc_inv {g g' : G4} {a a' b b' : Int} (h : some (g, a, b) = some (g', a', b')) : g' = g ∧ a' = a ∧ b' = b := by
  cases h
  exact ⟨rfl, rfl, rfl⟩
theorem FQ.bk {N x y c d a b w S M : Int} (h : FQ N x y c d a b w S M) : BkB ⟨x, y, c, d⟩ a := by
  have := h.c
  have := h.y
  have := h.m
  have := h.a0
  have := h.a1
  exact ⟨h.g, show y < 2 ^ 110 by omega, show c < 2 ^ 100 by omega, by omega⟩
theorem FQ.ln {N x y c d a b w S M : Int} (h : FQ N x y c d a b w S M) : LnB ⟨x, y, c, d⟩ a b S := by
  have := h.c
  have := h.y
  have := h.m
  have := h.a0
  have := h.a1
  have := h.b0
  have := h.b1
  have := h.s1
  exact ⟨h.g, show y < 2 ^ 110 by omega, show c < 2 ^ 100 by omega, by omega, by omega, by omega⟩
theorem one_k : (0 : Int) ≤ 0 ∧ (0 : Int) < ((1 : Nat) : Int) := ⟨by decide, by decide⟩
def c__law_in (A : Cls) : DSp := fun ds μ q e => ∃ x y c d l, ds = [gd x y c d, .int l] ∧ 0 < c ∧ c < 2 ^ 256 ∧ q (.bl (decide ((x ≤ l ∧ l < y) ∧ l % c = d))) μ
theorem len__law_in {A : Cls} : ∀ ds μ q e, c__law_in A ds μ q e → ds.length = 2 := fun ds μ q e ⟨_, _, _, _, _, h, _⟩ => by rw [h]; rfl
theorem ok__law_in {A : Cls} : ∀ ds μ q e, c__law_in A ds μ q e → rd__law_in A e (endsD q) (startD 2 ds) μ := by
  rintro ds μ q e ⟨x, y, c, d, l, rfl, hc, hc2, h⟩
  by_cases z1 : x ≤ l
  · by_cases z2 : l < y
    · refine iteDT z1 ?_
      refine iteDT z2 ?_
      refine ⟨hc, fin h (congrArg D.bl ?_)⟩
      by_cases z3 : l % c = d
      · rw [decide_eq_true z3, decide_eq_true ⟨⟨z1, z2⟩, z3⟩]
      · rw [decide_eq_false z3, decide_eq_false fun q => z3 q.2]
    · refine iteDT z1 ?_
      refine iteDF z2 ?_
      refine fin h (congrArg D.bl ?_)
      rw [decide_eq_false z2, decide_eq_false fun q => z2 q.1.2]
  · refine iteDF z1 ?_
    refine iteF rfl ?_
    refine fin h (congrArg D.bl ?_)
    rw [decide_eq_false fun q => z1 q.1.1]
def c__law_far_span (A : Cls) : DSp := fun ds μ q e => ∃ p g N n, ds = [.adr p, .int N] ∧ Bag p g μ n ∧ n < 2 ^ 58 ∧ 1 ≤ N ∧ N ≤ 1000000000000000000000000000000 ∧ ∀ x y c d μ', FG N x y c d → Bag p g μ' (n + 20) → Ge2 p g μ μ' → q (gd x y c d) μ'
theorem len__law_far_span {A : Cls} : ∀ ds μ q e, c__law_far_span A ds μ q e → ds.length = 2 := fun ds μ q e ⟨_, _, _, _, h, _⟩ => by rw [h]; rfl
theorem pickT (l : List Int) (P : Int → Prop) (μ : Mu) {x : Int} {q : DK} (x0 : 0 ≤ x) (x1 : x < l.length) (h : ∀ v ∈ l, P v) (k : ∀ v, P v → q (.int v) μ) : rIxG (.tup (l.map D.int)) (.int x) μ q := by
  obtain ⟨v, h1, h2⟩ := atI_some (l := l.map D.int) x0 (by simpa using x1)
  show (match atI (l.map D.int) x with | some d => q d μ | none => False)
  rw [h1]
  obtain ⟨y, h3, rfl⟩ := map_get h2
  exact k y (h y (List.mem_of_getElem? h3))
theorem p9 : (10 : Int) ^ (9 : Int).toNat = 1000000000 := by decide
theorem p29 : (10 : Int) ^ (29 : Int).toNat = 100000000000000000000000000000 := by decide
theorem ok__law_far_span {A : Cls} : ∀ ds μ q e, c__law_far_span A ds μ q e → rd__law_far_span A (c__law_draw A) e (endsD q) (startD 5 ds) μ := by
  rintro ds μ q e ⟨p, g, N, n, rfl, hs, hn, N0, N1, h⟩
  refine ⟨p, g, N, n, rfl, hs, by omega, by omega, by omega, fun v1 μ1 a0 a1 hs1 k1 => ?_⟩
  refine ⟨sz 2 rfl (by decide), ?_⟩
  refine ⟨p, g, 2, _, rfl, hs1, by omega, by decide, by decide, fun v2 μ2 b0 b1 hs2 k2 => ?_⟩
  refine pickT [0, v1] (fun v => 0 ≤ v ∧ v < N) μ2 b0 b1 ?_ fun x hx => ?_
  · intro v hv
    simp only [List.mem_cons, List.not_mem_nil, or_false] at hv
    omega
  refine ⟨CPow_of (j := 9) (by decide) (by decide) (by decide), ?_⟩
  refine ⟨CPow_of (j := 29) (by decide) (by decide) (by decide), ?_⟩
  refine ⟨sz 2 rfl (by decide), ?_⟩
  refine ⟨p, g, 2, _, rfl, hs2, by omega, by decide, by decide, fun v3 μ3 c0 c1 hs3 k3 => ?_⟩
  refine pickT [(10 : Int) ^ (9 : Int).toNat, (10 : Int) ^ (29 : Int).toNat] (fun v => 1 ≤ v ∧ v < 100000000000000000000000000001) μ3 c0 c1 ?_ fun G hG => ?_
  · intro v hv
    rw [p9, p29] at hv
    simp only [List.mem_cons, List.not_mem_nil, or_false] at hv
    omega
  refine ⟨p, g, 40, _, rfl, hs3, by omega, by decide, by decide, fun v4 μ4 d0 d1 hs4 k4 => ?_⟩
  refine ⟨p, g, G, _, rfl, hs4, by omega, by omega, by omega, fun v5 μ5 e0 e1 hs5 k5 => ?_⟩
  refine ⟨sz 5 rfl (by decide), ?_⟩
  refine ⟨p, g, 5, _, rfl, hs5, by omega, by decide, by decide, fun v6 μ6 f0 f1 hs6 k6 => ?_⟩
  refine pickT [1, 1, 2, 1 + v4, 1 + v5] (fun v => 1 ≤ v ∧ v ≤ 100000000000000000000000000000) μ6 f0 f1 ?_ fun c hc => ?_
  · intro v hv
    simp only [List.mem_cons, List.not_mem_nil, or_false] at hv
    omega
  refine ⟨p, g, N - x + 1, _, rfl, hs6, by omega, by omega, by omega, fun v7 μ7 g0 g1 hs7 k7 => ?_⟩
  refine ⟨p, g, c, _, rfl, hs7, by omega, by omega, by omega, fun v8 μ8 i0 i1 hs8 k8 => ?_⟩
  refine ⟨sz 4 rfl (by decide), ?_⟩
  refine fin (h x (x + v7) c v8 μ8 ⟨isG_iff.mpr ⟨by omega, by omega, by omega, by omega⟩, by omega, N0, N1, hc.2⟩ (hs8.le (by omega)) ?_) rfl
  exact k1.trans (k2.trans (k3.trans (k4.trans (k5.trans (k6.trans (k7.trans k8))))))
def c__law_sums (A : Cls) : DSp := fun ds μ q e => ∃ N x y c d a b w S M, ds = [kD A N (farS x y c d a b) [], .int w, .int S, .int M] ∧ FQ N x y c d a b w S M ∧ q (.lst ((far4 N x y c d a b w S M).map D.int)) μ
theorem len__law_sums {A : Cls} : ∀ ds μ q e, c__law_sums A ds μ q e → ds.length = 4 := fun ds μ q e ⟨_, _, _, _, _, _, _, _, _, _, h, _⟩ => by rw [h]; rfl
theorem ok__law_sums {A : Cls} : ∀ ds μ q e, c__law_sums A ds μ q e → rd__law_sums A (c_count_lines A) (c_count_waves A) (c_full_waves A) (c_total_degree A) e (endsD q) (startD 5 ds) μ := by
  rintro ds μ q e ⟨N, x, y, c, d, a, b, w, S, M, rfl, H, h⟩
  refine ⟨N, farS x y c d a b, [], 0, w, S, rfl, (by decide : 0 ≤ 1000), ?_⟩
  refine iteP one_k (iteP ⟨H.w0, H.w1⟩ (iteP H.s0 ?_))
  intro g' a' b' hg'
  obtain ⟨q1, q2, q3⟩ := acc_inv (g := ⟨x, y, c, d⟩) (a := a) (b := b) hg'
  rw [q1, q2, q3]
  refine ⟨H.ln, ?_⟩
  refine ⟨N, farS x y c d a b, [], 0, w, M, rfl, (by decide : 0 ≤ 1000), ?_⟩
  refine iteP one_k (iteP ⟨H.w0, H.w1⟩ (iteP ⟨H.M0, H.M1⟩ ?_))
  intro g' a' b' hg'
  obtain ⟨q1, q2, q3⟩ := acc_inv (g := ⟨x, y, c, d⟩) (a := a) (b := b) hg'
  rw [q1, q2]
  refine ⟨H.bk, fun T hT => ?_⟩
  refine ⟨sz 2 rfl (by decide), ?_⟩
  refine ⟨N, farS x y c d a b, [], 0, w, rfl, far_ok H.toFG, far_st H.toFG, ?_⟩
  refine iteP one_k (iteP ⟨H.w0, H.w1⟩ ?_)
  refine ⟨N, farS x y c d a b, [], 0, w, rfl, far_ok H.toFG, far_st H.toFG, ?_⟩
  refine iteP one_k (iteP ⟨H.w0, H.w1⟩ ?_)
  refine ⟨sz 2 rfl (by decide), ?_⟩
  refine ⟨szA rfl, ?_⟩
  have hy : y ≤ w * (y.toNat : Nat) := by
    obtain ⟨h1, h2, h3, h4⟩ := isG_iff.mp H.g
    have := H.w0
    have : 1 * y ≤ w * y := Int.mul_le_mul_of_nonneg_right (by omega) (by omega)
    rw [Int.toNat_of_nonneg (by omega)]; omega
  obtain rfl := hT y.toNat hy
  exact fin h rfl

theorem pk_len (x y c d lo : Int) (k : Nat) : (pk x y c d lo k).length ≤ k := by
  unfold pk
  refine Nat.le_trans (List.length_filter_le _ _) ?_
  simp
theorem cz_map (B k : Int) (ms : List Int) : ((ms.map (· % B)).count k : Nat) = cz B k ms := by
  unfold cz
  rw [List.count_eq_countP, List.countP_map, List.countP_eq_length_filter]
  congr 2
theorem cz_out {B k : Int} {ms : List Int} (h : ∀ m ∈ ms, m % B ≠ k) : cz B k ms = 0 := by
  unfold cz
  rw [List.filter_eq_nil_iff.mpr fun m hm => by rw [decide_eq_true_eq]; exact h m hm]; rfl
/-- the greatest number of different cells in one bank -/
theorem deg_of {B r : Int} {ns ms : List Int} (m1 : ms.Pairwise (· < ·)) (m2 : ∀ k, k ∈ ms ↔ k ∈ ns) (h1 : r ∈ [0] ++ (ms.map (· % B)).map fun v => (((ms.map (· % B)).count v : Nat) : Int)) (h2 : ∀ v, v ∈ [0] ++ ((ms.map (· % B)).map fun v => (((ms.map (· % B)).count v : Nat) : Int)) → v ≤ r) : Deg B ns r := by
  refine ⟨ms, m1, m2, fun key => ?_, ?_⟩
  · by_cases z : ∃ m ∈ ms, m % B = key
    · obtain ⟨m, hm, rfl⟩ := z
      rw [← cz_map]
      exact h2 _ (List.mem_append_right _ (List.mem_map.mpr ⟨m % B, List.mem_map.mpr ⟨m, hm, rfl⟩, rfl⟩))
    · rw [cz_out fun m hm y => z ⟨m, hm, y⟩]
      exact h2 0 (List.mem_append_left _ (List.mem_singleton.mpr rfl))
  · rcases List.mem_append.mp h1 with z | z
    · exact .inl (List.mem_singleton.mp z)
    · obtain ⟨v, hv, rfl⟩ := List.mem_map.mp z
      exact .inr ⟨v, (cz_map B v ms).symm⟩
def c__law_wave_right (A : Cls) : DSp := fun ds μ q e => ∃ N x y c d a b w S M n, ds = [kD A N (farS x y c d a b) [], (St.put ⟨x, y, c, d⟩ "x" a b 0 0).d, .int w, .int S, .int M, .int n] ∧ FQ N x y c d a b w S M ∧ 0 ≤ n ∧ w * n < N ∧ q (.bl true) μ
theorem len__law_wave_right {A : Cls} : ∀ ds μ q e, c__law_wave_right A ds μ q e → ds.length = 6 := fun ds μ q e ⟨_, _, _, _, _, _, _, _, _, _, _, h, _⟩ => by rw [h]; rfl

theorem wave_tail {A : Cls} {e : DX} {q : DK} {μ : Mu} {N x y c d a b w S M n : Int} {ms : List Int} {l6 : D} (H : FQ N x y c d a b w S M) (n0 : 0 ≤ n) (nN : w * n < N) (h : q (.bl true) μ)
    (m1 : ms.Pairwise (· < ·)) (m2 : ∀ k, k ∈ ms ↔ k ∈ (wl x y c d w n).map fun l => a * l + b) (ln : (wl x y c d w n).length ≤ 32) :
    (dSeq (dIfS (dTest (dOp rNeG (dCall (c_lanes_in_wave A) e [] (dCons (dVar 0) (dCons (dC (.int 0)) (dCons (dVar 2) (dCons (dVar 5) dNil))))) (dCB rLenD (dCons (dVar 7) dNil)))) (dRet (dC (.bl false))) dNext)
    (dSeq (dIfS (dTest (dOp rNeG (dCall (c_lines_of_wave A) e [] (dCons (dVar 0) (dCons (dC (.int 0)) (dCons (dVar 2) (dCons (dVar 3) (dCons (dVar 5) dNil)))))) (dLenSet (dLc (diSq (dVar 7)) (dgName 11) dYes (dOp rDivD (dVar 11) (dVar 3)) [11])))) (dRet (dC (.bl false))) dNext)
    (dSeq (dAsg (dCall (c_degree_of_wave A) e [] (dCons (dVar 0) (dCons (dC (.int 0)) (dCons (dVar 2) (dCons (dVar 4) (dCons (dVar 5) dNil)))))) (dgName 9))
    (dSeq (dIfS (dTest (dOp rGtD (dVar 9) (dCall (c_greatest_degree A) e [] (dCons (dVar 0) (dCons (dC (.int 0)) (dCons (dVar 2) (dCons (dVar 4) dNil))))))) (dRet (dC (.bl false))) dNext)
    (dRet (dOp rEqG (dVar 9) (dCB rMaxLD (dCons (dOp rAddD (dLst (dCons (dC (.int 0)) dNil)) (dLc (diSq (dVar 8)) (dgName 12) dYes (dCount (dVar 8) (dVar 12)) [12])) dNil)))))))) (endsD q)
    [some (kD A N (farS x y c d a b) []), some (St.put ⟨x, y, c, d⟩ "x" a b 0 0).d, some (.int w), some (.int S), some (.int M), some (.int n), some l6, some (.lst (((wl x y c d w n).map fun l => a * l + b).map D.int)), some (.lst ((ms.map (· % M)).map D.int)), none, none, none, none] μ := by
  obtain ⟨h1, h2, h3, h4⟩ := isG_iff.mp H.g
  have hc : 0 < c := by omega
  have w0 := H.w0
  have w1 := H.w1
  have hm := H.m
  have hy := H.y
  have s0 := H.s0
  have s1 := H.s1
  have M0 := H.M0
  have M1 := H.M1
  have nb : 1 * n ≤ w * n := Int.mul_le_mul_of_nonneg_right (by omega) n0
  refine ⟨N, farS x y c d a b, [], 0, w, n, rfl, far_ok H.toFG, far_st H.toFG, by omega, by omega, ?_⟩
  refine iteP one_k (iteP ⟨w0, w1⟩ (iteP ⟨n0, nN⟩ ?_))
  refine iteF ?_ ?_
  · rw [Bool.not_eq_false', decide_eq_true_eq]
    show cnt (wLo x w n) (wHi x y w n) c d = _
    rw [← wl_len hc h3 h4, List.length_map, List.length_map]
  refine ⟨N, farS x y c d a b, [], 0, w, S, n, rfl, (by decide : 0 ≤ 1000), ⟨by omega, by omega⟩, ?_⟩
  refine iteP one_k (iteP ⟨w0, w1⟩ (iteP s0 (iteP ⟨n0, nN⟩ ⟨by omega, ?_⟩)))
  intro g' a' b' hg'
  obtain ⟨q1, q2, q3⟩ := acc_inv (g := ⟨x, y, c, d⟩) (a := a) (b := b) hg'
  rw [q1, q2, q3]
  refine ⟨H.ln, ?_⟩
  refine ⟨fun i l μ' => μ' = μ ∧ l = ((((wl x y c d w n).map fun l => a * l + b).take i).map (· / S)).map D.int, ⟨rfl, rfl⟩, fun i l μ' hi hP => ⟨trivial, ?_⟩, ?_, ?_⟩
  · rw [hP.2, List.length_map, List.length_map, List.length_take, List.length_map, sizeLine_eq]; omega
  · rintro i v l μ' hi ⟨hμ, rfl⟩
    obtain rfl := hμ.symm
    obtain ⟨u, hu, rfl⟩ := map_get hi
    refine ⟨CDiv_of (by omega) (by omega), ?_⟩
    refine ⟨rfl, ?_⟩
    rw [List.take_add_one, hu]
    simp only [Option.toList, List.map_append, List.map_cons, List.map_nil]
  rintro l μ' ⟨hμ, rfl⟩
  obtain rfl := hμ.symm
  rw [List.length_map, List.take_length]
  refine ⟨_, rfl, by rw [List.length_map, List.length_map]; omega, fun out nd ho hle => ?_⟩
  refine iteF ?_ ?_
  · rw [Bool.not_eq_false', decide_eq_true_eq]
    exact (wl_lines (by omega) hc h3 h4 (by omega) nd ho).symm
  refine ⟨N, farS x y c d a b, [], 0, w, M, n, rfl, (by decide : 0 ≤ 1000), ⟨by omega, by omega⟩, ?_⟩
  refine iteP one_k (iteP ⟨w0, w1⟩ (iteP ⟨M0, M1⟩ (iteP ⟨n0, nN⟩ ?_)))
  intro g' a' b' hg'
  obtain ⟨q1, q2, q3⟩ := acc_inv (g := ⟨x, y, c, d⟩) (a := a) (b := b) hg'
  rw [q1, q2]
  refine ⟨H.bk, ?_⟩
  refine ⟨N, farS x y c d a b, [], 0, w, M, rfl, (by decide : 0 ≤ 1000), ?_⟩
  refine iteP one_k (iteP ⟨w0, w1⟩ (iteP ⟨M0, M1⟩ ?_))
  intro g' a' b' hg'
  obtain ⟨q1, q2, q3⟩ := acc_inv (g := ⟨x, y, c, d⟩) (a := a) (b := b) hg'
  rw [q1, q2]
  refine ⟨H.bk, fun r hr1 hr2 => ?_⟩
  have le : dg (a * c) M (cnt (wLo x w n) (wHi x y w n) c d) ≤ r := by
    have := hr1 n.toNat
    unfold ci at this
    rw [Int.toNat_of_nonneg n0] at this
    exact this
  refine iteDF (by show ¬ (dg (a * c) M (cnt (wLo x w n) (wHi x y w n) c d) > r); omega) ?_
  refine ⟨sz 1 rfl (by decide), ?_⟩
  refine ⟨fun i l μ' => μ' = μ ∧ l = (((ms.map (· % M)).take i).map fun v => (((ms.map (· % M)).count v : Nat) : Int)).map D.int, ⟨rfl, rfl⟩, fun i l μ' hi hP => ⟨trivial, ?_⟩, ?_, ?_⟩
  · have al := asc_len m1 m2
    rw [List.length_map] at al
    rw [hP.2, List.length_map, List.length_map, List.length_take, List.length_map, sizeLine_eq]; omega
  · rintro i v l μ' hi ⟨hμ, rfl⟩
    obtain rfl := hμ.symm
    obtain ⟨u, hu, rfl⟩ := map_get hi
    refine ⟨⟨_, rfl⟩, _, rfl, ?_⟩
    refine ⟨rfl, ?_⟩
    rw [List.take_add_one, hu]
    simp only [Option.toList, List.map_append, List.map_cons, List.map_nil]
  rintro l μ' ⟨hμ, rfl⟩
  obtain rfl := hμ.symm
  rw [List.length_map, List.take_length]
  have al := asc_len m1 m2
  rw [List.length_map] at al
  refine ⟨by rw [List.length_map, List.length_map, List.length_map, sizeLine_eq]; show 1 + _ ≤ _; omega, ?_⟩
  refine ⟨[0] ++ (ms.map (· % M)).map fun v => (((ms.map (· % M)).count v : Nat) : Int), by rw [List.map_append]; rfl, by rw [List.length_append]; show 0 < 1 + _; omega, fun g g1 g2 => ?_⟩
  have eqg := wl_deg hc h3 h4 (by omega) (deg_of m1 m2 g1 g2)
  refine fin h (congrArg D.bl ?_)
  rw [decide_eq_true_eq]
  exact eqg.symm
theorem ok__law_wave_right {A : Cls} : ∀ ds μ q e, c__law_wave_right A ds μ q e → rd__law_wave_right A (c_Kernel_lanes A) (c__law_in A) (c_degree_of_wave A) (c_greatest_degree A) (c_lanes_in_wave A) (c_lines_of_wave A) e (endsD q) (startD 13 ds) μ := by
  rintro ds μ q e ⟨N, x, y, c, d, a, b, w, S, M, n, rfl, H, n0, nN, h⟩
  obtain ⟨h1, h2, h3, h4⟩ := isG_iff.mp H.g
  have hc : 0 < c := by omega
  have w0 := H.w0
  have w1 := H.w1
  have hm := H.m
  have hy := H.y
  have hcc := H.c
  have a0 := H.a0
  have a1 := H.a1
  have b0 := H.b0
  have b1 := H.b1
  have nb : 1 * n ≤ w * n := Int.mul_le_mul_of_nonneg_right (by omega) n0
  have wn : (n + 1) * w = w * n + w := by rw [Int.add_mul, Int.mul_comm]; omega
  refine ⟨CMul_of (by omega) (by omega) (by omega) (by omega), ?_⟩
  refine ⟨rfl, N, farS x y c d a b, [], rfl, ?_⟩
  refine ⟨CMul_of (by omega) (by omega) (by omega) (by omega), ?_⟩
  have kk : ((if (n + 1) * w < N then (n + 1) * w else N) - n * w).toNat ≤ 32 := by
    rw [wn, Int.mul_comm n w]; split <;> omega
  refine ⟨by omega, ?_⟩
  generalize hk : ((if (n + 1) * w < N then (n + 1) * w else N) - n * w).toNat = k at kk
  have wle : (wl x y c d w n).length ≤ 32 := by
    rw [← pk_wave hy nN (by omega), hk]
    exact Nat.le_trans (pk_len ..) kk
  refine ⟨fun i l μ' => μ' = μ ∧ l = ((pk x y c d (n * w) i).map fun l => a * l + b).map D.int, ⟨rfl, rfl⟩, fun i l μ' hi hP => ⟨trivial, ?_⟩, ?_, ?_⟩
  · have := pk_len x y c d (n * w) i
    rw [ints_len] at hi
    rw [hP.2, List.length_map, List.length_map, sizeLine_eq]; omega
  · rintro i v l μ' hi ⟨hμ, rfl⟩
    obtain rfl := hμ.symm
    obtain ⟨hi2, rfl⟩ := ints_get hi
    refine ⟨x, y, c, d, _, rfl, hc, by omega, ?_⟩
    have e1 : n * w = w * n := Int.mul_comm ..
    refine iteD (fun z => ?_) (fun z => ?_)
    · refine ⟨CMul_of (by omega) (by omega) (by omega) (by omega), ?_⟩
      refine ⟨rfl, ?_⟩
      rw [pk_succ, if_pos z, List.map_append, List.map_append]; rfl
    · refine ⟨rfl, ?_⟩
      rw [pk_succ, if_neg z, List.append_nil]
  rintro l μ' ⟨hμ, rfl⟩
  obtain rfl := hμ.symm
  rw [ints_len, ← hk, pk_wave hy nN (by omega)]
  refine ⟨_, rfl, by rw [List.length_map]; omega, fun ms m1 m2 => ?_⟩
  have al := asc_len m1 m2
  rw [List.length_map] at al
  refine ⟨fun i l μ' => μ' = μ ∧ l = ((ms.take i).map (· % M)).map D.int, ⟨rfl, rfl⟩, fun i l μ' hi hP => ⟨trivial, ?_⟩, ?_, ?_⟩
  · rw [hP.2, List.length_map, List.length_map, List.length_take, sizeLine_eq]; omega
  · rintro i v l μ' hi ⟨hμ, rfl⟩
    obtain rfl := hμ.symm
    obtain ⟨u, hu, rfl⟩ := map_get hi
    have M0 := H.M0
    refine ⟨show 0 < M by omega, ?_⟩
    refine ⟨rfl, ?_⟩
    rw [List.take_add_one, hu]
    simp only [Option.toList, List.map_append, List.map_cons, List.map_nil]
  rintro l μ' ⟨hμ, rfl⟩
  obtain rfl := hμ.symm
  rw [List.length_map, List.take_length]
  exact wave_tail H n0 nN h m1 m2 wle
end Law

set_option linter.all false
set_option maxRecDepth 100000
set_option maxHeartbeats 2000000
namespace Law
open PySem L2 DL Ar
def c_law (A : Cls) : DSp := spLawD
theorem len_law {A : Cls} : ∀ ds μ q e, c_law A ds μ q e → ds.length = 1 := fun ds μ q e ⟨_, h, _⟩ => by rw [h]; rfl
theorem zip_get2 {l m : List D} {i : Nat} {d : D} (h : (zipD l m)[i]? = some d) : ∃ x y, l[i]? = some x ∧ m[i]? = some y ∧ d = .tup [x, y] := by
  unfold zipD at h
  rw [List.getElem?_zipWith] at h
  cases e1 : l[i]? with
  | none => rw [e1] at h; cases e2 : m[i]? <;> rw [e2] at h <;> cases h
  | some x =>
    rw [e1] at h
    cases e2 : m[i]? with
    | none => rw [e2] at h; cases h
    | some y => rw [e2] at h; exact ⟨x, y, rfl, rfl, (Option.some.inj h).symm⟩
theorem zw_take {u v : List Int} {i : Nat} {x y : Int} (h : u[i]? = some x) (k : v[i]? = some y) : (List.zipWith (· + ·) u v).take (i + 1) = (List.zipWith (· + ·) u v).take i ++ [x + y] := by
  rw [List.take_add_one, List.getElem?_zipWith, h, k]; rfl
def FC (N x y c d w S M a b G : Int) : Prop := FQ N x y c d a b w S M ∧ x ≤ G ∧ G ≤ y ∧ (G % w = 0 ∨ G = y)
theorem FC.lo {N x y c d w S M a b G : Int} (h : FC N x y c d w S M a b G) : FQ N x G c d a b w S M := by
  obtain ⟨H, h1, h2, h3⟩ := h
  obtain ⟨g1, g2, g3, g4⟩ := isG_iff.mp H.g
  have := H.y
  exact { H with g := isG_iff.mpr ⟨g1, h1, g3, g4⟩, y := by omega }
theorem FC.hi {N x y c d w S M a b G : Int} (h : FC N x y c d w S M a b G) : FQ N G y c d a b w S M := by
  obtain ⟨H, h1, h2, h3⟩ := h
  obtain ⟨g1, g2, g3, g4⟩ := isG_iff.mp H.g
  exact { H with g := isG_iff.mpr ⟨by omega, h2, g3, g4⟩ }

theorem rest15 {A : Cls} {e : DX} {E : DEnds} {p p2 : Addr} {μ : Mu} {N x y c d w S M a b G : Int} {y0 y2 x10 x12 x13 x14 x16 : Option D} (H : FC N x y c d w S M a b G) (hp : μ p2 = some (.lst [kD A N (farS x G c d a b) [], kD A N (farS G y c d a b) []]))
    (hE : ∀ x16, E.nx [y0, some (.adr p), y2, some (.int N), some (.int w), some (.int M), some (.int S), some (.int a), some (.int b), some (gd x y c d), x10, some (kD A N (farS x y c d a b) []), x12, x13, x14, some (.adr p2), x16, none, none] μ) :
    (dSeq (dAsg (dLc (diSq (dVar 15)) (dgName 17) dYes (dCall (c__law_sums A) eN [] (dCons (dVar 17) (dCons (dVar 4) (dCons (dVar 6) (dCons (dVar 5) dNil))))) [17]) (dgName 16))
    (dIfS (dTest (dOp rNeG (dLc (diZip (dCons (dOp rIxG (dVar 16) (dC (.int 0))) (dCons (dOp rIxG (dVar 16) (dC (.int 1))) dNil))) (dgTup 2 (dgCons (dgName 17) (dgCons (dgName 18) dgNil))) dYes (dOp rAddD (dVar 17) (dVar 18)) [17, 18]) (dCall (c__law_sums A) e [] (dCons (dVar 11) (dCons (dVar 4) (dCons (dVar 6) (dCons (dVar 5) dNil))))))) (dRet (dC (.bl false))) dNext)) E [y0, some (.adr p), y2, some (.int N), some (.int w), some (.int M), some (.int S), some (.int a), some (.int b), some (gd x y c d), x10, some (kD A N (farS x y c d a b) []), x12, x13, x14, some (.adr p2), x16, none, none] μ := by
  obtain ⟨HQ, g1, g2, g3⟩ := id H
  refine ⟨_, hp, fun i l μ' => μ' = μ ∧ l = ([far4 N x G c d a b w S M, far4 N G y c d a b w S M].take i).map fun u => D.lst (u.map D.int), ⟨rfl, rfl⟩, fun i l μ' hi hP => ⟨?_, ?_⟩, ?_, ?_⟩
  · rw [hP.1]; exact hp
  · rw [hP.2, List.length_map, List.length_take, sizeLine_eq]; show min i 2 < _; omega
  · rintro i v l μ' hi ⟨hμ, rfl⟩
    obtain rfl := hμ.symm
    match i, hi with
    | 0, hi =>
      obtain rfl := Option.some.inj hi
      exact ⟨N, x, G, c, d, a, b, w, S, M, rfl, H.lo, rfl, rfl⟩
    | 1, hi =>
      obtain rfl := Option.some.inj hi
      exact ⟨N, G, y, c, d, a, b, w, S, M, rfl, H.hi, rfl, rfl⟩
  rintro l μ' ⟨hμ, rfl⟩
  obtain rfl := hμ.symm
  refine ⟨_, _, rfl, rfl, ?_⟩
  refine ⟨fun i l μ' => μ' = μ ∧ l = ((List.zipWith (· + ·) (far4 N x G c d a b w S M) (far4 N G y c d a b w S M)).take i).map D.int, ⟨rfl, rfl⟩, fun i l μ' hi hP => ⟨trivial, ?_⟩, ?_, ?_⟩
  · rw [hP.2, List.length_map, List.length_take, List.length_zipWith, sizeLine_eq]
    show min i 4 < _
    omega
  · rintro i v l μ' hi ⟨hμ, rfl⟩
    obtain rfl := hμ.symm
    obtain ⟨d1, d2, hd1, hd2, rfl⟩ := zip_get2 hi
    obtain ⟨u, hu, rfl⟩ := map_get hd1
    obtain ⟨v, hv, rfl⟩ := map_get hd2
    refine ⟨rfl, ?_⟩
    refine ⟨rfl, ?_⟩
    rw [zw_take hu hv, List.map_append]; rfl
  rintro l μ' ⟨hμ, rfl⟩
  obtain rfl := hμ.symm
  have full : ((List.zipWith (· + ·) (far4 N x G c d a b w S M) (far4 N G y c d a b w S M)).take (zipD ((far4 N x G c d a b w S M).map D.int) ((far4 N G y c d a b w S M).map D.int)).length) = far4 N x y c d a b w S M := by
    rw [List.take_of_length_le (by rw [zipD_len, List.length_map, List.length_map, List.length_zipWith]; exact Nat.le_refl _)]
    exact far4_cut HQ.g HQ.n HQ.y (by have := HQ.w0; omega) HQ.M0 g1 g2 g3
  rw [full]
  refine ⟨N, x, y, c, d, a, b, w, S, M, rfl, HQ, ?_⟩
  have pl : plainD 64 (.lst ((far4 N x y c d a b w S M).map D.int)) = true := plain_ints 63 _
  refine ⟨pl, pl, ?_⟩
  refine iteF (by rw [show ∀ l, nrm μ (.lst l) = .lst l from fun _ => rfl, eqD_refl pl]; rfl) ?_
  exact hE _

theorem sz2 {n : Nat} (h : Nat.ble n 1000 = true) : n ≤ sizeLine := by have := Nat.le_of_ble_eq_true h; rw [sizeLine_eq]; omega
theorem lstM_one {t : DTE} {δ : DS} {μ : Mu} {k : DK} (h : t δ μ fun d μ1 => [d].length ≤ sizeLine ∧ ∀ p, μ1 p = none → k (.adr p) (updM μ1 p (.lst [d]))) : dLstM (dCons t dNil) δ μ k := h
theorem rest13 {A : Cls} {e : DX} {E : DEnds} {p g : Addr} {μ : Mu} {n N x y c d w S M a b G : Int} {y0 y2 x10 x12 x13 x15 x16 : Option D} (H : FC N x y c d w S M a b G) (hb : Bag p g μ n)
    (hE : ∀ x15 x16 μ', Bag p g μ' n → E.nx [y0, some (.adr p), y2, some (.int N), some (.int w), some (.int M), some (.int S), some (.int a), some (.int b), some (gd x y c d), x10, some (kD A N (farS x y c d a b) []), x12, x13, some (.int G), x15, x16, none, none] μ') :
    (dSeq (dAsg (dLstM (dCons (dMakeZ A.Kernel (c_Kernel___init__ A) e [.tup []] (dCons (dVar 3) (dCons (dLst (dCons (dTup (dCons (dC (.str "put")) (dCons (dOp rAddD (dTup (dCons (dOp rIxG (dVar 9) (dC (.int 0))) (dCons (dVar 14) dNil))) (dSl (dVar 9) (dPart (dC (.int 2))) dNoPart)) (dCons (dC (.str "x")) (dCons (dVar 7) (dCons (dVar 8) (dCons (dC (.int 0)) (dCons (dC (.int 0)) dNil)))))))) dNil)) dNil))) dNil)) (dgName 15))
    (dSeq (dDrop (dAppend (dVar 15) (dMakeZ A.Kernel (c_Kernel___init__ A) e [.tup []] (dCons (dVar 3) (dCons (dLst (dCons (dTup (dCons (dC (.str "put")) (dCons (dOp rAddD (dTup (dCons (dVar 14) (dCons (dOp rIxG (dVar 9) (dC (.int 1))) dNil))) (dSl (dVar 9) (dPart (dC (.int 2))) dNoPart)) (dCons (dC (.str "x")) (dCons (dVar 7) (dCons (dVar 8) (dCons (dC (.int 0)) (dCons (dC (.int 0)) dNil)))))))) dNil)) dNil)))))
    (dSeq (dAsg (dLc (diSq (dVar 15)) (dgName 17) dYes (dCall (c__law_sums A) eN [] (dCons (dVar 17) (dCons (dVar 4) (dCons (dVar 6) (dCons (dVar 5) dNil))))) [17]) (dgName 16))
    (dIfS (dTest (dOp rNeG (dLc (diZip (dCons (dOp rIxG (dVar 16) (dC (.int 0))) (dCons (dOp rIxG (dVar 16) (dC (.int 1))) dNil))) (dgTup 2 (dgCons (dgName 17) (dgCons (dgName 18) dgNil))) dYes (dOp rAddD (dVar 17) (dVar 18)) [17, 18]) (dCall (c__law_sums A) e [] (dCons (dVar 11) (dCons (dVar 4) (dCons (dVar 6) (dCons (dVar 5) dNil))))))) (dRet (dC (.bl false))) dNext)))) E [y0, some (.adr p), y2, some (.int N), some (.int w), some (.int M), some (.int S), some (.int a), some (.int b), some (gd x y c d), x10, some (kD A N (farS x y c d a b) []), x12, x13, some (.int G), x15, x16, none, none] μ := by
  refine seq_asg (lstM_one ?_)
  refine (make_k (A := A) (N := N) (ss := farS x G c d a b) (bs := []) (as := [.int N, .lst ((farS x G c d a b).map St.d)]) ?ht rfl (.inr rfl) (.inl rfl) (far_ok H.lo.toFG) ?_)
  case ht => exact fun q k => ⟨sz 2 rfl (by decide), by simp, szA rfl, sz 7 rfl (by decide), sz 1 rfl (by decide), k⟩
  refine ⟨sz 1 rfl (by decide), fun p2 hp2 => ?_⟩
  refine ⟨⟨_, updM_same _ _ _⟩, make_k (A := A) (N := N) (ss := farS G y c d a b) (bs := []) (as := [.int N, .lst ((farS G y c d a b).map St.d)]) ?ht2 rfl (.inr rfl) (.inl rfl) (far_ok H.hi.toFG) ?_⟩
  case ht2 => exact fun q k => ⟨sz 2 rfl (by decide), by simp, szA rfl, sz 7 rfl (by decide), sz 1 rfl (by decide), k⟩
  refine ⟨_, updM_same _ _ _, sz2 rfl, ?_⟩
  exact rest15 (p := p) H (updM_same _ _ _) fun x16 => hE _ _ _ ((hb.upd hp2).at (updM_ne (hb.ne hp2).1.symm |>.trans rfl) (updM_ne (hb.ne hp2).2.symm |>.trans rfl))

theorem mid_ok {x y w v : Int} (h : x ≤ y) (hw : 0 < w) : x ≤ v → v ≤ y → x ≤ (if v + (0 - v) % w < y then v + (0 - v) % w else y) ∧ (if v + (0 - v) % w < y then v + (0 - v) % w else y) ≤ y ∧ ((if v + (0 - v) % w < y then v + (0 - v) % w else y) % w = 0 ∨ (if v + (0 - v) % w < y then v + (0 - v) % w else y) = y) := by
  intro h1 h2
  have r := mod_ne (a := 0 - v) hw
  by_cases z : v + (0 - v) % w < y
  · rw [if_pos z]
    refine ⟨by omega, by omega, .inl ?_⟩
    rw [Int.add_emod_emod, show v + (0 - v) = 0 by omega, Int.zero_emod]
  · rw [if_neg z]; exact ⟨h, Int.le_refl _, .inr rfl⟩
theorem rest10 {A : Cls} {e : DX} {E : DEnds} {p g : Addr} {μ : Mu} {n N x y c d w S M a b W : Int} {y0 y2 x10 x13 x14 x15 x16 : Option D} (H : FQ N x y c d a b w S M) (hb : Bag p g μ n) (hn : n < 2 ^ 50) (hW : 1 ≤ W) (hW2 : W ≤ 1000000000000000000000000000000)
    (hE : ∀ x14 x15 x16 μ', Bag p g μ' (n + 1) → E.nx [y0, some (.adr p), y2, some (.int N), some (.int w), some (.int M), some (.int S), some (.int a), some (.int b), some (gd x y c d), x10, some (kD A N (farS x y c d a b) []), some (.int W), x13, x14, x15, x16, none, none] μ') :
    (dSeq (dIfS (dTest (dOp rGtD (dCall (c_count_lines A) e [] (dCons (dVar 11) (dCons (dC (.int 0)) (dCons (dVar 4) (dCons (dVar 6) dNil))))) (dCall (c_count_lanes A) e [] (dCons (dVar 9) dNil)))) (dRet (dC (.bl false))) dNext)
    (dSeq (dAsg (dCB rMin2D (dCons (dCB rMax2D (dCons (dOp rMulD (dVar 4) (dCall (c__law_draw A) e [] (dCons (dVar 1) (dCons (dVar 12) dNil)))) (dCons (dOp rIxG (dVar 9) (dC (.int 0))) dNil))) (dCons (dOp rIxG (dVar 9) (dC (.int 1))) dNil))) (dgName 14))
    (dSeq (dAsg (dCB rMin2D (dCons (dOp rIxG (dVar 9) (dC (.int 1))) (dCons (dOp rAddD (dVar 14) (dOp rModD (dOp rSubD (dC (.int 0)) (dVar 14)) (dVar 4))) dNil))) (dgName 14))
    (dSeq (dAsg (dLstM (dCons (dMakeZ A.Kernel (c_Kernel___init__ A) e [.tup []] (dCons (dVar 3) (dCons (dLst (dCons (dTup (dCons (dC (.str "put")) (dCons (dOp rAddD (dTup (dCons (dOp rIxG (dVar 9) (dC (.int 0))) (dCons (dVar 14) dNil))) (dSl (dVar 9) (dPart (dC (.int 2))) dNoPart)) (dCons (dC (.str "x")) (dCons (dVar 7) (dCons (dVar 8) (dCons (dC (.int 0)) (dCons (dC (.int 0)) dNil)))))))) dNil)) dNil))) dNil)) (dgName 15))
    (dSeq (dDrop (dAppend (dVar 15) (dMakeZ A.Kernel (c_Kernel___init__ A) e [.tup []] (dCons (dVar 3) (dCons (dLst (dCons (dTup (dCons (dC (.str "put")) (dCons (dOp rAddD (dTup (dCons (dVar 14) (dCons (dOp rIxG (dVar 9) (dC (.int 1))) dNil))) (dSl (dVar 9) (dPart (dC (.int 2))) dNoPart)) (dCons (dC (.str "x")) (dCons (dVar 7) (dCons (dVar 8) (dCons (dC (.int 0)) (dCons (dC (.int 0)) dNil)))))))) dNil)) dNil)))))
    (dSeq (dAsg (dLc (diSq (dVar 15)) (dgName 17) dYes (dCall (c__law_sums A) eN [] (dCons (dVar 17) (dCons (dVar 4) (dCons (dVar 6) (dCons (dVar 5) dNil))))) [17]) (dgName 16))
    (dIfS (dTest (dOp rNeG (dLc (diZip (dCons (dOp rIxG (dVar 16) (dC (.int 0))) (dCons (dOp rIxG (dVar 16) (dC (.int 1))) dNil))) (dgTup 2 (dgCons (dgName 17) (dgCons (dgName 18) dgNil))) dYes (dOp rAddD (dVar 17) (dVar 18)) [17, 18]) (dCall (c__law_sums A) e [] (dCons (dVar 11) (dCons (dVar 4) (dCons (dVar 6) (dCons (dVar 5) dNil))))))) (dRet (dC (.bl false))) dNext))))))) E [y0, some (.adr p), y2, some (.int N), some (.int w), some (.int M), some (.int S), some (.int a), some (.int b), some (gd x y c d), x10, some (kD A N (farS x y c d a b) []), some (.int W), x13, x14, x15, x16, none, none] μ := by
  obtain ⟨h1, h2, h3, h4⟩ := isG_iff.mp H.g
  have hc : 0 < c := by omega
  have w0 := H.w0
  have w1 := H.w1
  have cc := H.c
  refine ⟨N, farS x y c d a b, [], 0, w, S, rfl, (by decide : 0 ≤ 1000), ?_⟩
  refine iteP one_k (iteP ⟨H.w0, H.w1⟩ (iteP H.s0 ?_))
  intro g' a' b' hg'
  obtain ⟨q1, q2, q3⟩ := acc_inv (g := ⟨x, y, c, d⟩) (a := a) (b := b) hg'
  rw [q1, q2, q3]
  refine ⟨H.ln, ?_⟩
  refine ⟨x, y, c, d, rfl, iteP H.g ⟨by omega, ?_⟩⟩
  refine iteDF (by have := CG_le (mkL w S a b) (d := d) hc h2; show ¬ ((mkL w S a b).CG x y c d > cnt x y c d); omega) ?_
  refine ⟨p, g, W, n, rfl, hb, by omega, by omega, by omega, fun v μ1 v0 v1 hb1 k1 => ?_⟩
  refine ⟨CMul_of (by omega) (by omega) (by omega) (by omega), ?_⟩
  dsimp only [dgName]
  have zz : x ≤ (if y < (if x > w * v then x else w * v) then y else (if x > w * v then x else w * v)) ∧ (if y < (if x > w * v then x else w * v) then y else (if x > w * v then x else w * v)) ≤ y := by
    refine ⟨?_, ?_⟩ <;> (repeat' split) <;> omega
  refine ⟨show 0 < w by omega, ?_⟩
  dsimp only [dgName]
  exact rest13 (H := ⟨H, mid_ok h2 (by omega) zz.1 zz.2⟩) hb1 fun x15 x16 μ' hb' => hE _ _ _ _ hb'

theorem wave_lt {N w n : Int} (hw : 0 < w) (h : n ≤ (N + w - 1) / w - 1) : w * n < N := by
  have := Int.mul_le_of_le_ediv hw (show n + 1 ≤ (N + w - 1) / w by omega)
  rw [Int.add_mul, Int.mul_comm] at this
  omega
theorem rest5 {A : Cls} {e : DX} {E : DEnds} {p g : Addr} {μ : Mu} {n N w S M a b : Int} {y0 y2 x9 x10 x11 x12 x13 x14 x15 x16 : Option D} (hF : ∀ x y c d, FG N x y c d → FQ N x y c d a b w S M) (hb : Bag p g μ n) (hn : n < 2 ^ 49) (n0 : 1 ≤ N) (n1 : N ≤ 1000000000000000000000000000000) (w0 : 1 ≤ w) (w1 : w ≤ 32)
    (hE : ∀ x9 x10 x11 x12 x13 x14 x15 x16 μ', Bag p g μ' (n + 22) → E.nx [y0, some (.adr p), y2, some (.int N), some (.int w), some (.int M), some (.int S), some (.int a), some (.int b), x9, x10, x11, x12, x13, x14, x15, x16, none, none] μ') :
    (dSeq (dAsg (dCall (c__law_far_span A) e [] (dCons (dVar 1) (dCons (dVar 3) dNil))) (dgName 9))
    (dSeq (dAsg (dTup (dCons (dC (.str "put")) (dCons (dVar 9) (dCons (dC (.str "x")) (dCons (dVar 7) (dCons (dVar 8) (dCons (dC (.int 0)) (dCons (dC (.int 0)) dNil)))))))) (dgName 10))
    (dSeq (dAsg (dMakeZ A.Kernel (c_Kernel___init__ A) e [.tup []] (dCons (dVar 3) (dCons (dLst (dCons (dVar 10) dNil)) dNil))) (dgName 11))
    (dSeq (dAsg (dOp rDivD (dOp rSubD (dOp rAddD (dVar 3) (dVar 4)) (dC (.int 1))) (dVar 4)) (dgName 12))
    (dSeq (dFor (diSq (dTup (dCons (dC (.int 0)) (dCons (dOp rSubD (dVar 12) (dC (.int 1))) (dCons (dCB rMin2D (dCons (dOp rSubD (dVar 12) (dC (.int 1))) (dCons (dOp rDivD (dOp rIxG (dVar 9) (dC (.int 0))) (dVar 4)) dNil))) (dCons (dCall (c__law_draw A) e [] (dCons (dVar 1) (dCons (dVar 12) dNil))) dNil)))))) (dgName 13) (dIfS (dNot (dTru (dCall (c__law_wave_right A) e [] (dCons (dVar 11) (dCons (dVar 10) (dCons (dVar 4) (dCons (dVar 6) (dCons (dVar 5) (dCons (dVar 13) dNil))))))))) (dRet (dC (.bl false))) dNext))
    (dSeq (dIfS (dTest (dOp rGtD (dCall (c_count_lines A) e [] (dCons (dVar 11) (dCons (dC (.int 0)) (dCons (dVar 4) (dCons (dVar 6) dNil))))) (dCall (c_count_lanes A) e [] (dCons (dVar 9) dNil)))) (dRet (dC (.bl false))) dNext)
    (dSeq (dAsg (dCB rMin2D (dCons (dCB rMax2D (dCons (dOp rMulD (dVar 4) (dCall (c__law_draw A) e [] (dCons (dVar 1) (dCons (dVar 12) dNil)))) (dCons (dOp rIxG (dVar 9) (dC (.int 0))) dNil))) (dCons (dOp rIxG (dVar 9) (dC (.int 1))) dNil))) (dgName 14))
    (dSeq (dAsg (dCB rMin2D (dCons (dOp rIxG (dVar 9) (dC (.int 1))) (dCons (dOp rAddD (dVar 14) (dOp rModD (dOp rSubD (dC (.int 0)) (dVar 14)) (dVar 4))) dNil))) (dgName 14))
    (dSeq (dAsg (dLstM (dCons (dMakeZ A.Kernel (c_Kernel___init__ A) e [.tup []] (dCons (dVar 3) (dCons (dLst (dCons (dTup (dCons (dC (.str "put")) (dCons (dOp rAddD (dTup (dCons (dOp rIxG (dVar 9) (dC (.int 0))) (dCons (dVar 14) dNil))) (dSl (dVar 9) (dPart (dC (.int 2))) dNoPart)) (dCons (dC (.str "x")) (dCons (dVar 7) (dCons (dVar 8) (dCons (dC (.int 0)) (dCons (dC (.int 0)) dNil)))))))) dNil)) dNil))) dNil)) (dgName 15))
    (dSeq (dDrop (dAppend (dVar 15) (dMakeZ A.Kernel (c_Kernel___init__ A) e [.tup []] (dCons (dVar 3) (dCons (dLst (dCons (dTup (dCons (dC (.str "put")) (dCons (dOp rAddD (dTup (dCons (dVar 14) (dCons (dOp rIxG (dVar 9) (dC (.int 1))) dNil))) (dSl (dVar 9) (dPart (dC (.int 2))) dNoPart)) (dCons (dC (.str "x")) (dCons (dVar 7) (dCons (dVar 8) (dCons (dC (.int 0)) (dCons (dC (.int 0)) dNil)))))))) dNil)) dNil)))))
    (dSeq (dAsg (dLc (diSq (dVar 15)) (dgName 17) dYes (dCall (c__law_sums A) eN [] (dCons (dVar 17) (dCons (dVar 4) (dCons (dVar 6) (dCons (dVar 5) dNil))))) [17]) (dgName 16))
    (dIfS (dTest (dOp rNeG (dLc (diZip (dCons (dOp rIxG (dVar 16) (dC (.int 0))) (dCons (dOp rIxG (dVar 16) (dC (.int 1))) dNil))) (dgTup 2 (dgCons (dgName 17) (dgCons (dgName 18) dgNil))) dYes (dOp rAddD (dVar 17) (dVar 18)) [17, 18]) (dCall (c__law_sums A) e [] (dCons (dVar 11) (dCons (dVar 4) (dCons (dVar 6) (dCons (dVar 5) dNil))))))) (dRet (dC (.bl false))) dNext)))))))))))) E [y0, some (.adr p), y2, some (.int N), some (.int w), some (.int M), some (.int S), some (.int a), some (.int b), x9, x10, x11, x12, x13, x14, x15, x16, none, none] μ := by
  refine ⟨p, g, N, n, rfl, hb, by omega, n0, n1, fun x y c d μ1 hg hb1 k1 => ?_⟩
  have H := hF x y c d hg
  obtain ⟨h1, h2, h3, h4⟩ := isG_iff.mp H.g
  refine ⟨sz 7 rfl (by decide), ?_⟩
  dsimp only [dgName]
  refine seq_asg (make_k (A := A) (N := N) (ss := farS x y c d a b) (bs := []) (as := [.int N, .lst ((farS x y c d a b).map St.d)]) ?ht rfl (.inr rfl) (.inl rfl) (far_ok hg) ?_)
  case ht => exact fun q k => ⟨sz 1 rfl (by decide), k⟩
  refine ⟨CDiv_of (by omega) (by omega), ?_⟩
  have Wl : 1 ≤ (N + w - 1) / w := Int.le_ediv_of_mul_le (by omega) (by omega)
  have Wu : (N + w - 1) / w ≤ N := by
    have := Int.ediv_mul_le (N + w - 1) (show w ≠ 0 by omega)
    have q := wave_lt (N := N) (w := w) (n := (N + w - 1) / w - 1) (by omega) (Int.le_refl _)
    have : 1 * ((N + w - 1) / w - 1) ≤ w * ((N + w - 1) / w - 1) := Int.mul_le_mul_of_nonneg_right (by omega) (by omega)
    omega
  obtain ⟨W, hW⟩ : ∃ W, W = (N + w - 1) / w := ⟨_, rfl⟩
  rw [← hW] at Wl Wu
  show dSeq _ _ E [y0, some (.adr p), y2, some (.int N), some (.int w), some (.int M), some (.int S), some (.int a), some (.int b), some (gd x y c d), some (St.put ⟨x, y, c, d⟩ "x" a b 0 0).d, some (kD A N (farS x y c d a b) []), some (.int ((N + w - 1) / w)), x13, x14, x15, x16, none, none] μ1
  rw [← hW]
  refine ⟨CDiv_of (by omega) (by omega), ?_⟩
  refine ⟨p, g, W, _, rfl, hb1, by omega, by omega, by omega, fun v μ2 v0 v1 hb2 k2 => ?_⟩
  refine ⟨sz 4 rfl (by decide), ?_⟩
  refine ⟨fun i δ μ' => ∃ x13, δ = [y0, some (.adr p), y2, some (.int N), some (.int w), some (.int M), some (.int S), some (.int a), some (.int b), some (gd x y c d), some (St.put ⟨x, y, c, d⟩ "x" a b 0 0).d, some (kD A N (farS x y c d a b) []), some (.int W), x13, x14, x15, x16, none, none] ∧ Bag p g μ' (n + 21), ⟨_, rfl, hb2.le (by omega)⟩, fun _ _ _ _ _ => trivial, ?_, ?_⟩
  · rintro i z δ μ' hi ⟨x13, rfl, hb3⟩
    have xw := Int.ediv_nonneg h1 (show 0 ≤ w by omega)
    have key : ∃ m : Int, z = .int m ∧ 0 ≤ m ∧ m ≤ W - 1 := by
      match i, hi with
      | 0, hi => exact ⟨_, (Option.some.inj hi).symm, by omega, by omega⟩
      | 1, hi => exact ⟨_, (Option.some.inj hi).symm, by omega, by omega⟩
      | 2, hi => exact ⟨_, (Option.some.inj hi).symm, by split <;> omega, by split <;> omega⟩
      | 3, hi => exact ⟨_, (Option.some.inj hi).symm, by omega, by omega⟩
    obtain ⟨m, rfl, m0, m1⟩ := key
    refine ⟨N, x, y, c, d, a, b, w, S, M, m, rfl, H, m0, wave_lt (by omega) (by rw [← hW]; omega), ?_⟩
    exact ⟨_, rfl, hb3⟩
  · rintro δ μ' ⟨x13, rfl, hb3⟩
    exact rest10 H hb3 (by omega) (by omega) (by omega) fun x14 x15 x16 μ' hb' => hE _ _ _ _ _ _ _ _ _ (hb'.le (by omega))

theorem p14 : (10 : Int) ^ (14 : Int).toNat = 100000000000000 := by decide
theorem p13 : (10 : Int) ^ (13 : Int).toNat = 10000000000000 := by decide
theorem p12 : (10 : Int) ^ (12 : Int).toNat = 1000000000000 := by decide
theorem p30 : (10 : Int) ^ (30 : Int).toNat = 1000000000000000000000000000000 := by decide
theorem ok_law {A : Cls} : ∀ ds μ q e, c_law A ds μ q e → rd_law A (c_Kernel___init__ A) (c__law_bag A) (c__law_draw A) (c__law_far_span A) (c__law_sums A) (c__law_wave_right A) (c_count_lanes A) (c_count_lines A) e (endsD q) (startD 19 ds) μ := by
  rintro ds μ q e ⟨ns, rfl, hl, h⟩
  refine ⟨ns, rfl, by omega, fun p g μ0 hb0 k0 => ?_⟩
  refine ⟨fun j δ μ' => ∃ x2 x3 x4 x5 x6 x7 x8 x9 x10 x11 x12 x13 x14 x15 x16, δ = [some (.rol (ns.map D.int)), some (.adr p), x2, x3, x4, x5, x6, x7, x8, x9, x10, x11, x12, x13, x14, x15, x16, none, none] ∧ Bag p g μ' (50 * j), ⟨_, _, _, _, _, _, _, _, _, _, _, _, _, _, _, rfl, hb0.le (by decide)⟩, fun _ _ _ _ _ => trivial, ?_, ?_⟩
  · rintro j z δ μ' hi ⟨x2, x3, x4, x5, x6, x7, x8, x9, x10, x11, x12, x13, x14, x15, x16, rfl, hb⟩
    obtain ⟨hj, rfl⟩ := ints_get hi
    have hj : j < 20 := by
      have : (5 + (if (((ns.map D.int).length : Nat) : Int) < 10 then (((ns.map D.int).length : Nat) : Int) else 10)) ≤ (15 : Int) := by
        rw [List.length_map]; split <;> omega
      have hj := hj
      generalize (5 + (if (((ns.map D.int).length : Nat) : Int) < 10 then (((ns.map D.int).length : Nat) : Int) else 10)) = z at this hj
      omega
    refine ⟨CPow_of (j := 9) (by decide) (by decide) (by decide), ?_⟩
    refine ⟨p, g, 40, _, rfl, hb, by omega, by decide, by decide, fun v1 μ1 a0 a1 hb1 k1 => ?_⟩
    refine ⟨CPow_of (j := 30) (by decide) (by decide) (by decide), ?_⟩
    refine ⟨p, g, 40, _, rfl, hb1, by omega, by decide, by decide, fun v2 μ2 b0 b1 hb2 k2 => ?_⟩
    refine ⟨sz 3 rfl (by decide), ?_⟩
    refine ⟨p, g, 3, _, rfl, hb2, by omega, by decide, by decide, fun v3 μ3 c0 c1 hb3 k3 => ?_⟩
    refine pickT [50, (10 : Int) ^ (9 : Int).toNat + v1, (10 : Int) ^ (30 : Int).toNat - v2] (fun v => 1 ≤ v ∧ v ≤ 1000000000000000000000000000000) μ3 c0 c1 ?_ fun N hN => ?_
    · intro v hv
      rw [p9, p30] at hv
      simp only [List.mem_cons, List.not_mem_nil, or_false] at hv
      omega
    refine ⟨p, g, 32, _, rfl, hb3, by omega, by decide, by decide, fun v4 μ4 d0 d1 hb4 k4 => ?_⟩
    refine ⟨p, g, 4096, _, rfl, hb4, by omega, by decide, by decide, fun v5 μ5 e0 e1 hb5 k5 => ?_⟩
    refine ⟨sz 2 rfl (by decide), ?_⟩
    refine ⟨rfl, ?_⟩
    dsimp only [dgCons, dgNil, dgName]
    refine ⟨p, g, 40, _, rfl, hb5, by omega, by decide, by decide, fun v6 μ6 f0 f1 hb6 k6 => ?_⟩
    refine ⟨CPow_of (j := 12) (by decide) (by decide) (by decide), ?_⟩
    refine ⟨p, g, _, _, rfl, hb6, by omega, by rw [p12]; decide, by rw [p12]; decide, fun v7 μ7 g0 g1 hb7 k7 => ?_⟩
    rw [p12] at g1
    refine ⟨sz 2 rfl (by decide), ?_⟩
    refine ⟨p, g, 2, _, rfl, hb7, by omega, by decide, by decide, fun v8 μ8 i0 i1 hb8 k8 => ?_⟩
    refine pickT [1 + v6, 1 + v7] (fun v => 1 ≤ v ∧ v ≤ 1000000000000) μ8 i0 i1 ?_ fun S hS => ?_
    · intro v hv
      simp only [List.mem_cons, List.not_mem_nil, or_false] at hv
      omega
    refine ⟨p, g, 30, _, rfl, hb8, by omega, by decide, by decide, fun v9 μ9 j0 j1 hb9 k9 => ?_⟩
    refine ⟨CPow_of (j := 12) (by decide) (by decide) (by decide), ?_⟩
    refine ⟨p, g, _, _, rfl, hb9, by omega, by rw [p12]; decide, by rw [p12]; decide, fun v10 μ10 l0 l1 hb10 k10 => ?_⟩
    rw [p12] at l1
    refine ⟨p, g, 2, _, rfl, hb10, by omega, by decide, by decide, fun v11 μ11 m0 m1 hb11 k11 => ?_⟩
    refine iteD (fun z => ?_) (fun z => ?_)
    · refine ⟨CPow_of (j := 14) (by decide) (by decide) (by decide), ?_⟩
      refine ⟨p, g, _, _, rfl, hb11, by omega, by rw [p14]; decide, by rw [p14]; decide, fun v12 μ12 n0 n1 hb12 k12 => ?_⟩
      rw [p14] at n1
      refine ⟨CPow_of (j := 13) (by decide) (by decide) (by decide), ?_⟩
      refine rest5 (n := 50 * (j : Int) + 12) (fun x y c d hg => { hg with a0 := by rw [p13]; omega, a1 := by rw [p13]; omega, b0 := by omega, b1 := by omega, w0 := by omega, w1 := by omega, s0 := by omega, s1 := by omega, M0 := by omega, M1 := by omega }) (hb12.le (by omega)) (by omega) hN.1 hN.2 (by omega) (by omega) ?_
      intro x9 x10 x11 x12 x13 x14 x15 x16 μ' hb'
      exact ⟨_, _, _, _, _, _, _, _, _, _, _, _, _, _, _, rfl, hb'.le (by omega)⟩
    · refine rest5 (n := 50 * (j : Int) + 12) (fun x y c d hg => { hg with a0 := by omega, a1 := by omega, b0 := by omega, b1 := by omega, w0 := by omega, w1 := by omega, s0 := by omega, s1 := by omega, M0 := by omega, M1 := by omega }) (hb11.le (by omega)) (by omega) hN.1 hN.2 (by omega) (by omega) ?_
      intro x9 x10 x11 x12 x13 x14 x15 x16 μ' hb'
      exact ⟨_, _, _, _, _, _, _, _, _, _, _, _, _, _, _, rfl, hb'.le (by omega)⟩
  · rintro δ μ' ⟨x2, x3, x4, x5, x6, x7, x8, x9, x10, x11, x12, x13, x14, x15, x16, rfl, hb⟩
    exact fin (h μ') rfl
end Law

namespace Law
open PySem L2 DL
def top (i : Nat) : Stmt := PySem.Challenge.pw_stridelanes_k76_whole_far_lines_and_bank.main.body.getD i (.Pass ⟨0, 0, 0, 0⟩)
structure Glob (w : World) (K : PySem.W.Frag) (mg : Str → Option Value) (A : Cls) (fI : Addr) : Prop where
  e_InvalidAccess : PySem.ErrX.ErrTxt K mg "InvalidAccess" A.InvalidAccess fI
  e_InvalidBarrier : PySem.ErrX.ErrTxt K mg "InvalidBarrier" A.InvalidBarrier fI
  e_InvalidGuard : PySem.ErrX.ErrTxt K mg "InvalidGuard" A.InvalidGuard fI
  e_InvalidLanes : PySem.ErrX.ErrTxt K mg "InvalidLanes" A.InvalidLanes fI
  e_InvalidNumber : PySem.ErrX.ErrTxt K mg "InvalidNumber" A.InvalidNumber fI
  e_InvalidStatement : PySem.ErrX.ErrTxt K mg "InvalidStatement" A.InvalidStatement fI
  z_abs : mg "abs" = none
  z_all : mg "all" = none
  z_enumerate : mg "enumerate" = none
  m_gcd : mg "gcd" = some (.builtin "math.gcd")
  z_len : mg "len" = none
  z_list : mg "list" = none
  z_max : mg "max" = none
  z_min : mg "min" = none
  z_range : mg "range" = none
  z_set : mg "set" = none
  z_sorted : mg "sorted" = none
  z_sum : mg "sum" = none
  z_zip : mg "zip" = none
  g_MOST_BANKS : ∃ t, mg "MOST_BANKS" = some (.int 4096 t)
  g_MOST_LANES : ∃ t, mg "MOST_LANES" = some (.int 32 t)
  g_WRITTEN : ∃ t, mg "WRITTEN" = some (.int 2 t)
  k_Doing : L2.Cls K A.Doing
  k_Kernel : L2.Cls K A.Kernel
  a_Doing_array : NoAttr K A.Doing "array"
  a_Doing_number : NoAttr K A.Doing "number"
  a_Doing_phase : NoAttr K A.Doing "phase"
  a_Doing_side : NoAttr K A.Doing "side"
  a_Doing_writes : NoAttr K A.Doing "writes"
  a_Kernel__barriers : NoAttr K A.Kernel "_barriers"
  a_Kernel__lanes : NoAttr K A.Kernel "_lanes"
  a_Kernel__racing : NoAttr K A.Kernel "_racing"
  a_Kernel__statements : NoAttr K A.Kernel "_statements"
  t_ACCESSES : KdTab K w mg "ACCESSES" A.d_ACCESSES tab_ACCESSES miss_ACCESSES
  t_ARRAYS : KdTab K w mg "ARRAYS" A.d_ARRAYS tab_ARRAYS miss_ARRAYS
  t_ITEMS : KdTab K w mg "ITEMS" A.d_ITEMS tab_ITEMS miss_ITEMS
  triv : True
abbrev s_is_guard : Stmt := top 12
abbrev sc_N_is_guard : List Str := ["guard", "low", "high", "step", "rest"]
theorem sc_is_guard : FnScope ["guard", "low", "high", "step", "rest"] ["guard"] (defScope s_is_guard) := ⟨rfl, rfl, rfl, by decide +kernel, rfl, by decide +kernel, by decide +kernel⟩
theorem fd_is_guard {P : Program} {w : World} {K : PySem.W.Frag} {mg : Str → Option Value} {base : Heap} {A : Cls} {fI f : Addr} {fd : FuncData} (T : Glob w K mg A fI) (F : Fun K "is_guard" "is_guard" s_is_guard f fd) : FnG P w K mg base 1 f fd ["guard"] (LSp K (c_is_guard A)) :=
  fnD_of (t := fun e => rd_is_guard A e) F sc_is_guard rfl len_is_guard (fun cdv A0 outer s H E O e C tk ow => ((dss_cons (ds_asg (dv 0) (dg_tup rfl (dgs_cons (dg_name (i := 1) sc_is_guard.nd rfl (Or.inl rfl)) (dgs_cons (dg_name (i := 2) sc_is_guard.nd rfl (Or.inl rfl)) (dgs_cons (dg_name (i := 3) sc_is_guard.nd rfl (Or.inl rfl)) (dgs_cons (dg_name (i := 4) sc_is_guard.nd rfl (Or.inl rfl)) dgs_nil))))))
    (dss_one (ds_ret (de_andT (de_chain op_leX op_leX od_leX od_leX de_int (dv 1) (dv 2)) (de_one (de_chain op_leX op_lt od_leX od_lt de_int (dv 4) (dv 3))))))))) ok_is_guard
theorem dh_is_guard {P : Program} {w : World} {K : PySem.W.Frag} {mg : Str → Option Value} {base : Heap} {A : Cls} {fI f : Addr} {fd : FuncData} (T : Glob w K mg A fI) (F : Fun K "is_guard" "is_guard" s_is_guard f fd) (hm : mg "is_guard" = some (.ref f)) : Fd P w K mg base "is_guard" 1 ["guard"] (c_is_guard A) := by
  exact ⟨_, _, (fd_is_guard T F), hm, F.kp, F.binds fun _ _ _ _ _ _ us hl => match us, hl with | [_], _ => rfl⟩
abbrev s_check_guard : Stmt := top 13
abbrev sc_N_check_guard : List Str := ["guard"]
theorem sc_check_guard : FnScope ["guard"] ["guard"] (defScope s_check_guard) := ⟨rfl, rfl, rfl, by decide +kernel, rfl, by decide +kernel, by decide +kernel⟩
theorem fd_check_guard {P : Program} {w : World} {K : PySem.W.Frag} {mg : Str → Option Value} {base : Heap} {A : Cls} {fI f : Addr} {fd : FuncData} (T : Glob w K mg A fI) (h_is_guard : Fd P w K mg base "is_guard" 1 ["guard"] (c_is_guard A)) (F : Fun K "check_guard" "check_guard" s_check_guard f fd) : FnG P w K mg base 2 f fd ["guard"] (LSp K (c_check_guard A)) :=
  fnD_of (t := fun e => rd_check_guard A (c_is_guard A) e) F sc_check_guard rfl len_check_guard (fun cdv A0 outer s H E O e C tk ow => ((dss_one (ds_if (dt_not (dt_truth (de_callF h_is_guard (C.room.mono (by decide)) C.gd C.px rfl (da_cons (dv 0) da_nil)))) (dss_one (ds_raise rfl T.e_InvalidGuard C.room tk (dv 0))) dss_nil)))) ok_check_guard
theorem dh_check_guard {P : Program} {w : World} {K : PySem.W.Frag} {mg : Str → Option Value} {base : Heap} {A : Cls} {fI f : Addr} {fd : FuncData} (T : Glob w K mg A fI) (h_is_guard : Fd P w K mg base "is_guard" 1 ["guard"] (c_is_guard A)) (F : Fun K "check_guard" "check_guard" s_check_guard f fd) (hm : mg "check_guard" = some (.ref f)) : Fd P w K mg base "check_guard" 2 ["guard"] (c_check_guard A) := by
  exact ⟨_, _, (fd_check_guard T h_is_guard F), hm, F.kp, F.binds fun _ _ _ _ _ _ us hl => match us, hl with | [_], _ => rfl⟩
abbrev s_first_from : Stmt := top 14
abbrev sc_N_first_from : List Str := ["low", "step", "rest"]
theorem sc_first_from : FnScope ["low", "step", "rest"] ["low", "step", "rest"] (defScope s_first_from) := ⟨rfl, rfl, rfl, by decide +kernel, rfl, by decide +kernel, by decide +kernel⟩
theorem fd_first_from {P : Program} {w : World} {K : PySem.W.Frag} {mg : Str → Option Value} {base : Heap} {A : Cls} {fI f : Addr} {fd : FuncData} (T : Glob w K mg A fI) (F : Fun K "first_from" "first_from" s_first_from f fd) : FnG P w K mg base 1 f fd ["low", "step", "rest"] (LSp K (c_first_from A)) :=
  fnD_of (t := fun e => rd_first_from A e) F sc_first_from rfl len_first_from (fun cdv A0 outer s H E O e C tk ow => ((dss_one (ds_ret (de_add (dv 0) (de_mod (de_sub (dv 2) (dv 0)) (dv 1))))))) ok_first_from
theorem dh_first_from {P : Program} {w : World} {K : PySem.W.Frag} {mg : Str → Option Value} {base : Heap} {A : Cls} {fI f : Addr} {fd : FuncData} (T : Glob w K mg A fI) (F : Fun K "first_from" "first_from" s_first_from f fd) (hm : mg "first_from" = some (.ref f)) : Fd P w K mg base "first_from" 1 ["low", "step", "rest"] (c_first_from A) := by
  exact ⟨_, _, (fd_first_from T F), hm, F.kp, F.binds fun _ _ _ _ _ _ us hl => match us, hl with | [_, _, _], _ => rfl⟩
abbrev s_count_lanes : Stmt := top 15
abbrev sc_N_count_lanes : List Str := ["guard", "low", "high", "step", "rest", "first"]
theorem sc_count_lanes : FnScope ["guard", "low", "high", "step", "rest", "first"] ["guard"] (defScope s_count_lanes) := ⟨rfl, rfl, rfl, by decide +kernel, rfl, by decide +kernel, by decide +kernel⟩
theorem fd_count_lanes {P : Program} {w : World} {K : PySem.W.Frag} {mg : Str → Option Value} {base : Heap} {A : Cls} {fI f : Addr} {fd : FuncData} (T : Glob w K mg A fI) (h_check_guard : Fd P w K mg base "check_guard" 2 ["guard"] (c_check_guard A)) (h_first_from : Fd P w K mg base "first_from" 1 ["low", "step", "rest"] (c_first_from A)) (F : Fun K "count_lanes" "count_lanes" s_count_lanes f fd) : FnG P w K mg base 3 f fd ["guard"] (LSp K (c_count_lanes A)) :=
  fnD_of (t := fun e => rd_count_lanes A (c_check_guard A) (c_first_from A) e) F sc_count_lanes rfl len_count_lanes (fun cdv A0 outer s H E O e C tk ow => ((dss_cons (ds_expr (de_callF h_check_guard (C.room.mono (by decide)) C.gd C.px rfl (da_cons (dv 0) da_nil)))
    (dss_cons (ds_asg (dv 0) (dg_tup rfl (dgs_cons (dg_name (i := 1) sc_count_lanes.nd rfl (Or.inl rfl)) (dgs_cons (dg_name (i := 2) sc_count_lanes.nd rfl (Or.inl rfl)) (dgs_cons (dg_name (i := 3) sc_count_lanes.nd rfl (Or.inl rfl)) (dgs_cons (dg_name (i := 4) sc_count_lanes.nd rfl (Or.inl rfl)) dgs_nil))))))
    (dss_cons (ds_asg (de_callF h_first_from (C.room.mono (by decide)) C.gd C.px rfl (da_cons (dv 1) (da_cons (dv 3) (da_cons (dv 4) da_nil)))) (dg_name (i := 5) sc_count_lanes.nd rfl (Or.inl rfl)))
    (dss_one (ds_ret (de_fdiv (de_sub (de_add (de_sub (dv 2) (dv 5)) (dv 3)) de_int) (dv 3))))))))) ok_count_lanes
theorem dh_count_lanes {P : Program} {w : World} {K : PySem.W.Frag} {mg : Str → Option Value} {base : Heap} {A : Cls} {fI f : Addr} {fd : FuncData} (T : Glob w K mg A fI) (h_check_guard : Fd P w K mg base "check_guard" 2 ["guard"] (c_check_guard A)) (h_first_from : Fd P w K mg base "first_from" 1 ["low", "step", "rest"] (c_first_from A)) (F : Fun K "count_lanes" "count_lanes" s_count_lanes f fd) (hm : mg "count_lanes" = some (.ref f)) : Fd P w K mg base "count_lanes" 3 ["guard"] (c_count_lanes A) := by
  exact ⟨_, _, (fd_count_lanes T h_check_guard h_first_from F), hm, F.kp, F.binds fun _ _ _ _ _ _ us hl => match us, hl with | [_], _ => rfl⟩
abbrev s_nth_lane : Stmt := top 16
abbrev sc_N_nth_lane : List Str := ["guard", "number", "many", "low", "_", "step", "rest"]
theorem sc_nth_lane : FnScope ["guard", "number", "many", "low", "_", "step", "rest"] ["guard", "number"] (defScope s_nth_lane) := ⟨rfl, rfl, rfl, by decide +kernel, rfl, by decide +kernel, by decide +kernel⟩
theorem fd_nth_lane {P : Program} {w : World} {K : PySem.W.Frag} {mg : Str → Option Value} {base : Heap} {A : Cls} {fI f : Addr} {fd : FuncData} (T : Glob w K mg A fI) (h_count_lanes : Fd P w K mg base "count_lanes" 3 ["guard"] (c_count_lanes A)) (h_first_from : Fd P w K mg base "first_from" 1 ["low", "step", "rest"] (c_first_from A)) (F : Fun K "nth_lane" "nth_lane" s_nth_lane f fd) : FnG P w K mg base 4 f fd ["guard", "number"] (LSp K (c_nth_lane A)) :=
  fnD_of (t := fun e => rd_nth_lane A (c_count_lanes A) (c_first_from A) e) F sc_nth_lane rfl len_nth_lane (fun cdv A0 outer s H E O e C tk ow => ((dss_cons (ds_asg (de_callF h_count_lanes (C.room.mono (by decide)) C.gd C.px rfl (da_cons (dv 0) da_nil)) (dg_name (i := 2) sc_nth_lane.nd rfl (Or.inl rfl)))
    (dss_cons (ds_if (PW.pt (dw_or (dt_cmp op_lt od_lt (dv 1) de_int (nomark _)) (dw_or1 (dt_cmp op_ge od_ge (dv 1) (dv 2) (nomark _))))) (dss_one (ds_raise rfl T.e_InvalidNumber C.room tk (dv 1))) dss_nil)
    (dss_cons (ds_asg (dv 0) (dg_tup rfl (dgs_cons (dg_name (i := 3) sc_nth_lane.nd rfl (Or.inl rfl)) (dgs_cons (dg_name (i := 4) sc_nth_lane.nd rfl (Or.inl rfl)) (dgs_cons (dg_name (i := 5) sc_nth_lane.nd rfl (Or.inl rfl)) (dgs_cons (dg_name (i := 6) sc_nth_lane.nd rfl (Or.inl rfl)) dgs_nil))))))
    (dss_one (ds_ret (de_add (de_callF h_first_from (C.room.mono (by decide)) C.gd C.px rfl (da_cons (dv 3) (da_cons (dv 5) (da_cons (dv 6) da_nil)))) (de_mul (dv 1) (dv 5)))))))))) ok_nth_lane
theorem dh_nth_lane {P : Program} {w : World} {K : PySem.W.Frag} {mg : Str → Option Value} {base : Heap} {A : Cls} {fI f : Addr} {fd : FuncData} (T : Glob w K mg A fI) (h_count_lanes : Fd P w K mg base "count_lanes" 3 ["guard"] (c_count_lanes A)) (h_first_from : Fd P w K mg base "first_from" 1 ["low", "step", "rest"] (c_first_from A)) (F : Fun K "nth_lane" "nth_lane" s_nth_lane f fd) (hm : mg "nth_lane" = some (.ref f)) : Fd P w K mg base "nth_lane" 4 ["guard", "number"] (c_nth_lane A) := by
  exact ⟨_, _, (fd_nth_lane T h_count_lanes h_first_from F), hm, F.kp, F.binds fun _ _ _ _ _ _ us hl => match us, hl with | [_, _], _ => rfl⟩
abbrev s_has_lane : Stmt := top 17
abbrev sc_N_has_lane : List Str := ["guard", "lane", "low", "high", "step", "rest"]
theorem sc_has_lane : FnScope ["guard", "lane", "low", "high", "step", "rest"] ["guard", "lane"] (defScope s_has_lane) := ⟨rfl, rfl, rfl, by decide +kernel, rfl, by decide +kernel, by decide +kernel⟩
theorem fd_has_lane {P : Program} {w : World} {K : PySem.W.Frag} {mg : Str → Option Value} {base : Heap} {A : Cls} {fI f : Addr} {fd : FuncData} (T : Glob w K mg A fI) (h_check_guard : Fd P w K mg base "check_guard" 2 ["guard"] (c_check_guard A)) (F : Fun K "has_lane" "has_lane" s_has_lane f fd) : FnG P w K mg base 3 f fd ["guard", "lane"] (LSp K (c_has_lane A)) :=
  fnD_of (t := fun e => rd_has_lane A (c_check_guard A) e) F sc_has_lane rfl len_has_lane (fun cdv A0 outer s H E O e C tk ow => ((dss_cons (ds_expr (de_callF h_check_guard (C.room.mono (by decide)) C.gd C.px rfl (da_cons (dv 0) da_nil)))
    (dss_cons (ds_asg (dv 0) (dg_tup rfl (dgs_cons (dg_name (i := 2) sc_has_lane.nd rfl (Or.inl rfl)) (dgs_cons (dg_name (i := 3) sc_has_lane.nd rfl (Or.inl rfl)) (dgs_cons (dg_name (i := 4) sc_has_lane.nd rfl (Or.inl rfl)) (dgs_cons (dg_name (i := 5) sc_has_lane.nd rfl (Or.inl rfl)) dgs_nil))))))
    (dss_one (ds_ret (de_andT (de_chain op_leX op_lt od_leX od_lt (dv 2) (dv 1) (dv 3)) (de_one (de_cmp (op_eqA C.room.units) od_eqA (de_mod (dv 1) (dv 4)) (dv 5) (nomark _)))))))))) ok_has_lane
theorem dh_has_lane {P : Program} {w : World} {K : PySem.W.Frag} {mg : Str → Option Value} {base : Heap} {A : Cls} {fI f : Addr} {fd : FuncData} (T : Glob w K mg A fI) (h_check_guard : Fd P w K mg base "check_guard" 2 ["guard"] (c_check_guard A)) (F : Fun K "has_lane" "has_lane" s_has_lane f fd) (hm : mg "has_lane" = some (.ref f)) : Fd P w K mg base "has_lane" 3 ["guard", "lane"] (c_has_lane A) := by
  exact ⟨_, _, (fd_has_lane T h_check_guard F), hm, F.kp, F.binds fun _ _ _ _ _ _ us hl => match us, hl with | [_, _], _ => rfl⟩
abbrev s_cut : Stmt := top 18
abbrev sc_N_cut : List Str := ["guard", "low", "high"]
theorem sc_cut : FnScope ["guard", "low", "high"] ["guard", "low", "high"] (defScope s_cut) := ⟨rfl, rfl, rfl, by decide +kernel, rfl, by decide +kernel, by decide +kernel⟩
theorem fd_cut {P : Program} {w : World} {K : PySem.W.Frag} {mg : Str → Option Value} {base : Heap} {A : Cls} {fI f : Addr} {fd : FuncData} (T : Glob w K mg A fI) (F : Fun K "cut" "cut" s_cut f fd) : FnG P w K mg base 1 f fd ["guard", "low", "high"] (LSp K (c_cut A)) :=
  fnD_of (t := fun e => rd_cut A e) F sc_cut rfl len_cut (fun cdv A0 outer s H E O e C tk ow => ((dss_cons (ds_asg (de_callB (call_max2 rfl) cd_max2 rfl T.z_max (by decide +kernel) (da_cons (dv 1) (da_cons (de_ix (dv 0) de_int) da_nil))) (dg_name (i := 1) sc_cut.nd rfl (Or.inl rfl)))
    (dss_one (ds_ret (de_tup (da_cons (dv 1) (da_cons (de_callB (call_max2 rfl) cd_max2 rfl T.z_max (by decide +kernel) (da_cons (dv 1) (da_cons (de_callB (call_min2 rfl) cd_min2 rfl T.z_min (by decide +kernel) (da_cons (dv 2) (da_cons (de_ix (dv 0) de_int) da_nil))) da_nil))) (da_cons (de_ix (dv 0) de_int) (da_cons (de_ix (dv 0) de_int) da_nil)))))))))) ok_cut
theorem dh_cut {P : Program} {w : World} {K : PySem.W.Frag} {mg : Str → Option Value} {base : Heap} {A : Cls} {fI f : Addr} {fd : FuncData} (T : Glob w K mg A fI) (F : Fun K "cut" "cut" s_cut f fd) (hm : mg "cut" = some (.ref f)) : Fd P w K mg base "cut" 1 ["guard", "low", "high"] (c_cut A) := by
  exact ⟨_, _, (fd_cut T F), hm, F.kp, F.binds fun _ _ _ _ _ _ us hl => match us, hl with | [_, _, _], _ => rfl⟩
abbrev s_is_array_name : Stmt := top 24
abbrev sc_N_is_array_name : List Str := ["name", "letter"]
theorem sc_is_array_name : FnScope ["name", "letter"] ["name"] (defScope s_is_array_name) := ⟨rfl, rfl, rfl, by decide +kernel, rfl, by decide +kernel, by decide +kernel⟩
theorem fd_is_array_name {P : Program} {w : World} {K : PySem.W.Frag} {mg : Str → Option Value} {base : Heap} {A : Cls} {fI f : Addr} {fd : FuncData} (T : Glob w K mg A fI) (F : Fun K "is_array_name" "is_array_name" s_is_array_name f fd) : FnG P w K mg base 1 f fd ["name"] (LSp K (c_is_array_name A)) :=
  fnD_of (t := fun e => rd_is_array_name A e) F sc_is_array_name rfl len_is_array_name (fun cdv A0 outer s H E O e C tk ow => ((dss_one (ds_ret (de_andT (de_chain op_leX op_leX od_leX od_leX de_int (de_callB call_len cd_len rfl T.z_len PySem.boot_len (da_cons (dv 0) da_nil)) de_int) (de_one (de_callB (cr_all rfl) cd_all rfl T.z_all (by decide +kernel) (da_cons (de_lc rfl sc_is_array_name.nd (di_sq (dv 0)) (blkOk_by (show blkC sc_N_is_array_name (defScope s_is_array_name) _ [("letter", 1)] = true from by decide +kernel)) (by decide) (fun _ _ _ _ _ => (dg_name (i := 1) sc_is_array_name.nd rfl (Or.inl rfl))) (fun _ _ _ _ _ => dts_nil) (fun _ _ _ _ _ => (de_chain op_leX op_leX od_leX od_leX de_str (dv 1) de_str)) (own := [("letter", 1)])) da_nil)))))))) ok_is_array_name
theorem dh_is_array_name {P : Program} {w : World} {K : PySem.W.Frag} {mg : Str → Option Value} {base : Heap} {A : Cls} {fI f : Addr} {fd : FuncData} (T : Glob w K mg A fI) (F : Fun K "is_array_name" "is_array_name" s_is_array_name f fd) (hm : mg "is_array_name" = some (.ref f)) : Fd P w K mg base "is_array_name" 1 ["name"] (c_is_array_name A) := by
  exact ⟨_, _, (fd_is_array_name T F), hm, F.kp, F.binds fun _ _ _ _ _ _ us hl => match us, hl with | [_], _ => rfl⟩
abbrev s_is_statement : Stmt := top 25
abbrev sc_N_is_statement : List Str := ["statement", "lanes", "word", "guard", "place"]
theorem sc_is_statement : FnScope ["statement", "lanes", "word", "guard", "place"] ["statement", "lanes"] (defScope s_is_statement) := ⟨rfl, rfl, rfl, by decide +kernel, rfl, by decide +kernel, by decide +kernel⟩
theorem fd_is_statement {P : Program} {w : World} {K : PySem.W.Frag} {mg : Str → Option Value} {base : Heap} {A : Cls} {fI f : Addr} {fd : FuncData} (T : Glob w K mg A fI) (h_is_array_name : Fd P w K mg base "is_array_name" 1 ["name"] (c_is_array_name A)) (h_is_guard : Fd P w K mg base "is_guard" 1 ["guard"] (c_is_guard A)) (F : Fun K "is_statement" "is_statement" s_is_statement f fd) : FnG P w K mg base 2 f fd ["statement", "lanes"] (LSp K (c_is_statement A)) :=
  fnD_of (t := fun e => rd_is_statement A (c_is_array_name A) (c_is_guard A) e) F sc_is_statement rfl len_is_statement (fun cdv A0 outer s H E O e C tk ow => ((dss_cons (ds_asg (de_ix (dv 0) de_int) (dg_name (i := 2) sc_is_statement.nd rfl (Or.inl rfl)))
    (dss_cons (ds_if (PW.pt (dw_or (dt_kdNotIn T.t_ITEMS (dv 2) (de_glob T.t_ITEMS rfl)) (dw_or1 (dt_cmp (op_neA C.room.units) od_neA (de_callB call_len cd_len rfl T.z_len PySem.boot_len (da_cons (dv 0) da_nil)) (de_kdIx T.t_ITEMS (de_glob T.t_ITEMS rfl) (dv 2)) (nomark _))))) (dss_one (ds_ret de_bl)) dss_nil)
    (dss_cons (ds_if (dt_not (dt_truth (de_callB (cr_all rfl) cd_all rfl T.z_all (by decide +kernel) (da_cons (de_lc rfl sc_is_statement.nd (di_sq (de_kdIx T.t_ARRAYS (de_glob T.t_ARRAYS rfl) (dv 2))) (blkOk_by (show blkC sc_N_is_statement (defScope s_is_statement) _ [("place", 4)] = true from by decide +kernel)) (by decide) (fun _ _ _ _ _ => (dg_name (i := 4) sc_is_statement.nd rfl (Or.inl rfl))) (fun _ _ _ _ _ => dts_nil) (fun _ _ _ _ _ => (de_callF h_is_array_name (C.room.mono (by decide)) C.gd passesN rfl (da_cons (de_ix (dv 0) (dv 4)) da_nil))) (own := [("place", 4)])) da_nil)))) (dss_one (ds_ret de_bl)) dss_nil)
    (dss_cons (ds_asg (de_ix (dv 0) de_int) (dg_name (i := 3) sc_is_statement.nd rfl (Or.inl rfl)))
    (dss_one (ds_ret (de_andT (de_callF h_is_guard (C.room.mono (by decide)) C.gd C.px rfl (da_cons (dv 3) da_nil)) (de_one (de_cmp op_leX od_leX (de_ix (dv 3) de_int) (dv 1) (nomark _)))))))))))) ok_is_statement
theorem dh_is_statement {P : Program} {w : World} {K : PySem.W.Frag} {mg : Str → Option Value} {base : Heap} {A : Cls} {fI f : Addr} {fd : FuncData} (T : Glob w K mg A fI) (h_is_array_name : Fd P w K mg base "is_array_name" 1 ["name"] (c_is_array_name A)) (h_is_guard : Fd P w K mg base "is_guard" 1 ["guard"] (c_is_guard A)) (F : Fun K "is_statement" "is_statement" s_is_statement f fd) (hm : mg "is_statement" = some (.ref f)) : Fd P w K mg base "is_statement" 2 ["statement", "lanes"] (c_is_statement A) := by
  exact ⟨_, _, (fd_is_statement T h_is_array_name h_is_guard F), hm, F.kp, F.binds fun _ _ _ _ _ _ us hl => match us, hl with | [_, _], _ => rfl⟩
abbrev s_count_up_to : Stmt := top 26
abbrev sc_N_count_up_to : List Str := ["barriers", "statement", "barrier"]
theorem sc_count_up_to : FnScope ["barriers", "statement", "barrier"] ["barriers", "statement"] (defScope s_count_up_to) := ⟨rfl, rfl, rfl, by decide +kernel, rfl, by decide +kernel, by decide +kernel⟩
theorem fd_count_up_to {P : Program} {w : World} {K : PySem.W.Frag} {mg : Str → Option Value} {base : Heap} {A : Cls} {fI f : Addr} {fd : FuncData} (T : Glob w K mg A fI) (F : Fun K "count_up_to" "count_up_to" s_count_up_to f fd) : FnG P w K mg base 1 f fd ["barriers", "statement"] (LSp K (c_count_up_to A)) :=
  fnD_of (t := fun e => rd_count_up_to A e) F sc_count_up_to rfl len_count_up_to (fun cdv A0 outer s H E O e C tk ow => ((dss_one (ds_ret (de_callB call_len cd_len rfl T.z_len PySem.boot_len (da_cons (de_lc rfl sc_count_up_to.nd (di_sq (dv 0)) (blkOk_by (show blkC sc_N_count_up_to (defScope s_count_up_to) _ [("barrier", 2)] = true from by decide +kernel)) (by decide) (fun _ _ _ _ _ => (dg_name (i := 2) sc_count_up_to.nd rfl (Or.inl rfl))) (fun _ _ _ _ _ => (dts_one (dt_cmp op_leX od_leX (dv 2) (dv 1) (nomark _)))) (fun _ _ _ _ _ => (dv 2)) (own := [("barrier", 2)])) da_nil)))))) ok_count_up_to
theorem dh_count_up_to {P : Program} {w : World} {K : PySem.W.Frag} {mg : Str → Option Value} {base : Heap} {A : Cls} {fI f : Addr} {fd : FuncData} (T : Glob w K mg A fI) (F : Fun K "count_up_to" "count_up_to" s_count_up_to f fd) (hm : mg "count_up_to" = some (.ref f)) : Fd P w K mg base "count_up_to" 1 ["barriers", "statement"] (c_count_up_to A) := by
  exact ⟨_, _, (fd_count_up_to T F), hm, F.kp, F.binds fun _ _ _ _ _ _ us hl => match us, hl with | [_, _], _ => rfl⟩
abbrev s_check_wave : Stmt := top 29
abbrev sc_N_check_wave : List Str := ["wave"]
theorem sc_check_wave : FnScope ["wave"] ["wave"] (defScope s_check_wave) := ⟨rfl, rfl, rfl, by decide +kernel, rfl, by decide +kernel, by decide +kernel⟩
theorem fd_check_wave {P : Program} {w : World} {K : PySem.W.Frag} {mg : Str → Option Value} {base : Heap} {A : Cls} {fI f : Addr} {fd : FuncData} (T : Glob w K mg A fI) (F : Fun K "check_wave" "check_wave" s_check_wave f fd) : FnG P w K mg base 1 f fd ["wave"] (LSp K (c_check_wave A)) :=
  fnD_of (t := fun e => rd_check_wave A e) F sc_check_wave rfl len_check_wave (fun cdv A0 outer s H E O e C tk ow => ((dss_one (ds_if (PW.pt (dw_or (dt_cmp op_lt od_lt (dv 0) de_int (nomark _)) (dw_or1 (dt_cmp op_gt od_gt (dv 0) (de_gint rfl T.g_MOST_LANES) (nomark _))))) (dss_one (ds_raise rfl T.e_InvalidNumber C.room tk (dv 0))) dss_nil)))) ok_check_wave
theorem dh_check_wave {P : Program} {w : World} {K : PySem.W.Frag} {mg : Str → Option Value} {base : Heap} {A : Cls} {fI f : Addr} {fd : FuncData} (T : Glob w K mg A fI) (F : Fun K "check_wave" "check_wave" s_check_wave f fd) (hm : mg "check_wave" = some (.ref f)) : Fd P w K mg base "check_wave" 1 ["wave"] (c_check_wave A) := by
  exact ⟨_, _, (fd_check_wave T F), hm, F.kp, F.binds fun _ _ _ _ _ _ us hl => match us, hl with | [_], _ => rfl⟩
abbrev s_check_statement_number : Stmt := top 30
abbrev sc_N_check_statement_number : List Str := ["kernel", "statement"]
theorem sc_check_statement_number : FnScope ["kernel", "statement"] ["kernel", "statement"] (defScope s_check_statement_number) := ⟨rfl, rfl, rfl, by decide +kernel, rfl, by decide +kernel, by decide +kernel⟩
theorem fd_check_statement_number {P : Program} {w : World} {K : PySem.W.Frag} {mg : Str → Option Value} {base : Heap} {A : Cls} {fI f : Addr} {fd : FuncData} (T : Glob w K mg A fI) (hm_Kernel___len__ : Mm P w K mg base A.Kernel "__len__" 1 ["self"] (c_Kernel___len__ A)) (F : Fun K "check_statement_number" "check_statement_number" s_check_statement_number f fd) : FnG P w K mg base 3 f fd ["kernel", "statement"] (LSp K (c_check_statement_number A)) :=
  fnD_of (t := fun e => rd_check_statement_number A (c_Kernel___len__ A) e) F sc_check_statement_number rfl len_check_statement_number (fun cdv A0 outer s H E O e C tk ow => ((dss_one (ds_if (PW.pt (dw_or (dt_cmp op_lt od_lt (dv 1) de_int (nomark _)) (dw_or1 (dt_cmp op_ge od_ge (dv 1) (de_callB ((call_lenOwn hm_Kernel___len__ (C.room.mono (by decide)) C.gd).or call_len) cd_lenX rfl T.z_len PySem.boot_len (da_cons (dv 0) da_nil)) (nomark _))))) (dss_one (ds_raise rfl T.e_InvalidNumber C.room tk (dv 1))) dss_nil)))) ok_check_statement_number
theorem dh_check_statement_number {P : Program} {w : World} {K : PySem.W.Frag} {mg : Str → Option Value} {base : Heap} {A : Cls} {fI f : Addr} {fd : FuncData} (T : Glob w K mg A fI) (hm_Kernel___len__ : Mm P w K mg base A.Kernel "__len__" 1 ["self"] (c_Kernel___len__ A)) (F : Fun K "check_statement_number" "check_statement_number" s_check_statement_number f fd) (hm : mg "check_statement_number" = some (.ref f)) : Fd P w K mg base "check_statement_number" 3 ["kernel", "statement"] (c_check_statement_number A) := by
  exact ⟨_, _, (fd_check_statement_number T hm_Kernel___len__ F), hm, F.kp, F.binds fun _ _ _ _ _ _ us hl => match us, hl with | [_, _], _ => rfl⟩
abbrev s_check_number_of_wave : Stmt := top 31
abbrev sc_N_check_number_of_wave : List Str := ["kernel", "wave", "number"]
theorem sc_check_number_of_wave : FnScope ["kernel", "wave", "number"] ["kernel", "wave", "number"] (defScope s_check_number_of_wave) := ⟨rfl, rfl, rfl, by decide +kernel, rfl, by decide +kernel, by decide +kernel⟩
theorem fd_check_number_of_wave {P : Program} {w : World} {K : PySem.W.Frag} {mg : Str → Option Value} {base : Heap} {A : Cls} {fI f : Addr} {fd : FuncData} (T : Glob w K mg A fI) (hq_Kernel_lanes : Pp P w K mg base A.Kernel "lanes" 1 ["self"] (c_Kernel_lanes A)) (F : Fun K "check_number_of_wave" "check_number_of_wave" s_check_number_of_wave f fd) : FnG P w K mg base 3 f fd ["kernel", "wave", "number"] (LSp K (c_check_number_of_wave A)) :=
  fnD_of (t := fun e => rd_check_number_of_wave A (c_Kernel_lanes A) e) F sc_check_number_of_wave rfl len_check_number_of_wave (fun cdv A0 outer s H E O e C tk ow => ((dss_one (ds_if (PW.pt (dw_or (dt_cmp op_lt od_lt (dv 2) de_int (nomark _)) (dw_or1 (dt_cmp op_ge od_ge (de_mul (dv 1) (dv 2)) (de_propP T.k_Kernel hq_Kernel_lanes (C.room.mono (by decide)) C.gd (dv 0)) (nomark _))))) (dss_one (ds_raise rfl T.e_InvalidNumber C.room tk (dv 2))) dss_nil)))) ok_check_number_of_wave
theorem dh_check_number_of_wave {P : Program} {w : World} {K : PySem.W.Frag} {mg : Str → Option Value} {base : Heap} {A : Cls} {fI f : Addr} {fd : FuncData} (T : Glob w K mg A fI) (hq_Kernel_lanes : Pp P w K mg base A.Kernel "lanes" 1 ["self"] (c_Kernel_lanes A)) (F : Fun K "check_number_of_wave" "check_number_of_wave" s_check_number_of_wave f fd) (hm : mg "check_number_of_wave" = some (.ref f)) : Fd P w K mg base "check_number_of_wave" 3 ["kernel", "wave", "number"] (c_check_number_of_wave A) := by
  exact ⟨_, _, (fd_check_number_of_wave T hq_Kernel_lanes F), hm, F.kp, F.binds fun _ _ _ _ _ _ us hl => match us, hl with | [_, _, _], _ => rfl⟩
abbrev s_Doing___init__ : Stmt := inClass (top 33) 0
abbrev sc_N_Doing___init__ : List Str := ["self", "number", "statement", "place", "phase", "puts"]
theorem sc_Doing___init__ : FnScope ["self", "number", "statement", "place", "phase", "puts"] ["self", "number", "statement", "place", "phase"] (defScope s_Doing___init__) := ⟨rfl, rfl, rfl, by decide +kernel, rfl, by decide +kernel, by decide +kernel⟩
theorem fd_Doing___init__ {P : Program} {w : World} {K : PySem.W.Frag} {mg : Str → Option Value} {base : Heap} {A : Cls} {fI f : Addr} {fd : FuncData} (T : Glob w K mg A fI) (F : Fun K "__init__" "Doing.__init__" s_Doing___init__ f fd) : FnG P w K mg base 1 f fd ["self", "number", "statement", "place", "phase"] (LSp K (c_Doing___init__ A)) :=
  fnD_of (t := fun e => rd_Doing___init__ A e) F sc_Doing___init__ rfl len_Doing___init__ (fun cdv A0 outer s H E O e C tk ow => ((dss_cons (ds_fld T.k_Doing T.a_Doing_number (dv 0) (dv 1))
    (dss_cons (ds_fld T.k_Doing T.a_Doing_phase (dv 0) (dv 4))
    (dss_cons (ds_fld T.k_Doing T.a_Doing_array (dv 0) (de_ix (dv 2) (dv 3)))
    (dss_cons (ds_fld T.k_Doing T.a_Doing_writes (dv 0) (de_cmp (op_eqA C.room.units) od_eqA (dv 3) (de_gint rfl T.g_WRITTEN) (nomark _)))
    (dss_cons (ds_asg (de_if (dt_cmp (op_eqA C.room.units) od_eqA (de_ix (dv 2) de_int) de_str (nomark _)) (de_sl (dv 2) (do_some de_int) do_none) de_non) (dg_name (i := 5) sc_Doing___init__.nd rfl (Or.inl rfl)))
    (dss_one (ds_fld T.k_Doing T.a_Doing_side (dv 0) (de_tup (da_cons (de_ix (dv 2) de_int) (da_cons (de_ix (dv 2) (de_add (dv 3) de_int)) (da_cons (de_ix (dv 2) (de_add (dv 3) de_int)) (da_cons (dv 5) da_nil)))))))))))))) ok_Doing___init__
theorem dhi_Doing_0 {P : Program} {w : World} {K : PySem.W.Frag} {mg : Str → Option Value} {base : Heap} {A : Cls} {fI f : Addr} {fd : FuncData} (T : Glob w K mg A fI) (F : Fun K "__init__" "Doing.__init__" s_Doing___init__ f fd) (M : Mk K A.Doing f) (hm : mg "Doing" = some (.ref A.Doing)) : Im P w K mg base "Doing" A.Doing 1 ["self", "number", "statement", "place", "phase"] (c_Doing___init__ A) [] := by
  exact ⟨_, _, [], [], (fd_Doing___init__ T F), M, hm, F.binds fun _ _ _ _ _ _ us hl => match us, hl with | [_, _, _, _, _], _ => rfl, .nil, fun _ _ => RepL.nil⟩
abbrev s_doing_at : Stmt := top 35
abbrev sc_N_doing_at : List Str := ["kernel", "number", "left", "at", "statement", "places"]
theorem sc_doing_at : FnScope ["kernel", "number", "left", "at", "statement", "places"] ["kernel", "number"] (defScope s_doing_at) := ⟨rfl, rfl, rfl, by decide +kernel, rfl, by decide +kernel, by decide +kernel⟩
theorem fd_doing_at {P : Program} {w : World} {K : PySem.W.Frag} {mg : Str → Option Value} {base : Heap} {A : Cls} {fI f : Addr} {fd : FuncData} (T : Glob w K mg A fI) (h_count_up_to : Fd P w K mg base "count_up_to" 1 ["barriers", "statement"] (c_count_up_to A)) (hi_Doing_0 : Im P w K mg base "Doing" A.Doing 1 ["self", "number", "statement", "place", "phase"] (c_Doing___init__ A) []) (hq_Kernel_barriers : Pp P w K mg base A.Kernel "barriers" 1 ["self"] (c_Kernel_barriers A)) (hq_Kernel_statements : Pp P w K mg base A.Kernel "statements" 1 ["self"] (c_Kernel_statements A)) (F : Fun K "doing_at" "doing_at" s_doing_at f fd) : FnG P w K mg base 3 f fd ["kernel", "number"] (LSp K (c_doing_at A)) :=
  fnD_of (t := fun e => rd_doing_at A (c_Doing___init__ A) (c_Kernel_barriers A) (c_Kernel_statements A) (c_count_up_to A) e) F sc_doing_at rfl len_doing_at (fun cdv A0 outer s H E O e C tk ow => ((dss_cons (ds_asg (dv 1) (dg_name (i := 2) sc_doing_at.nd rfl (Or.inl rfl)))
    (dss_cons (ds_for ow rfl (di_enX rfl T.z_enumerate (da_cons (de_propP T.k_Kernel hq_Kernel_statements (C.room.mono (by decide)) C.gd (dv 0)) da_nil)) (dg_tup rfl (dgs_cons (dg_name (i := 3) sc_doing_at.nd rfl (Or.inl rfl)) (dgs_cons (dg_name (i := 4) sc_doing_at.nd rfl (Or.inl rfl)) dgs_nil))) (dss_cons (ds_asg (de_kdIx T.t_ACCESSES (de_glob T.t_ACCESSES rfl) (de_ix (dv 4) de_int)) (dg_name (i := 5) sc_doing_at.nd rfl (Or.inl rfl)))
    (dss_cons (ds_if (dt_chain op_leX op_lt od_leX od_lt de_int (dv 2) (de_callB call_len cd_len rfl T.z_len PySem.boot_len (da_cons (dv 5) da_nil))) (dss_one (ds_ret (de_makeI (x := "Doing") hi_Doing_0 (C.room.mono (by decide)) C.gd C.px rfl (da_cons (dv 1) (da_cons (dv 4) (da_cons (de_ix (dv 5) (dv 2)) (da_cons (de_callF h_count_up_to (C.room.mono (by decide)) C.gd C.px rfl (da_cons (de_propP T.k_Kernel hq_Kernel_barriers (C.room.mono (by decide)) C.gd (dv 0)) (da_cons (dv 3) da_nil))) da_nil))))))) dss_nil)
    (dss_one (ds_aug (i := 2) sc_doing_at.nd rfl (Or.inl rfl) (de_callB call_len cd_len rfl T.z_len PySem.boot_len (da_cons (dv 5) da_nil)) ip_sub)))))
    (dss_one (ds_raise rfl T.e_InvalidAccess C.room tk (dv 1))))))) ok_doing_at
theorem dh_doing_at {P : Program} {w : World} {K : PySem.W.Frag} {mg : Str → Option Value} {base : Heap} {A : Cls} {fI f : Addr} {fd : FuncData} (T : Glob w K mg A fI) (h_count_up_to : Fd P w K mg base "count_up_to" 1 ["barriers", "statement"] (c_count_up_to A)) (hi_Doing_0 : Im P w K mg base "Doing" A.Doing 1 ["self", "number", "statement", "place", "phase"] (c_Doing___init__ A) []) (hq_Kernel_barriers : Pp P w K mg base A.Kernel "barriers" 1 ["self"] (c_Kernel_barriers A)) (hq_Kernel_statements : Pp P w K mg base A.Kernel "statements" 1 ["self"] (c_Kernel_statements A)) (F : Fun K "doing_at" "doing_at" s_doing_at f fd) (hm : mg "doing_at" = some (.ref f)) : Fd P w K mg base "doing_at" 3 ["kernel", "number"] (c_doing_at A) := by
  exact ⟨_, _, (fd_doing_at T h_count_up_to hi_Doing_0 hq_Kernel_barriers hq_Kernel_statements F), hm, F.kp, F.binds fun _ _ _ _ _ _ us hl => match us, hl with | [_, _], _ => rfl⟩
abbrev s_lanes_of_wave : Stmt := top 37
abbrev sc_N_lanes_of_wave : List Str := ["guard", "wave", "number"]
theorem sc_lanes_of_wave : FnScope ["guard", "wave", "number"] ["guard", "wave", "number"] (defScope s_lanes_of_wave) := ⟨rfl, rfl, rfl, by decide +kernel, rfl, by decide +kernel, by decide +kernel⟩
theorem fd_lanes_of_wave {P : Program} {w : World} {K : PySem.W.Frag} {mg : Str → Option Value} {base : Heap} {A : Cls} {fI f : Addr} {fd : FuncData} (T : Glob w K mg A fI) (h_cut : Fd P w K mg base "cut" 1 ["guard", "low", "high"] (c_cut A)) (F : Fun K "lanes_of_wave" "lanes_of_wave" s_lanes_of_wave f fd) : FnG P w K mg base 2 f fd ["guard", "wave", "number"] (LSp K (c_lanes_of_wave A)) :=
  fnD_of (t := fun e => rd_lanes_of_wave A (c_cut A) e) F sc_lanes_of_wave rfl len_lanes_of_wave (fun cdv A0 outer s H E O e C tk ow => ((dss_one (ds_ret (de_callF h_cut (C.room.mono (by decide)) C.gd C.px rfl (da_cons (dv 0) (da_cons (de_mul (dv 1) (dv 2)) (da_cons (de_add (de_mul (dv 1) (dv 2)) (dv 1)) da_nil)))))))) ok_lanes_of_wave
theorem dh_lanes_of_wave {P : Program} {w : World} {K : PySem.W.Frag} {mg : Str → Option Value} {base : Heap} {A : Cls} {fI f : Addr} {fd : FuncData} (T : Glob w K mg A fI) (h_cut : Fd P w K mg base "cut" 1 ["guard", "low", "high"] (c_cut A)) (F : Fun K "lanes_of_wave" "lanes_of_wave" s_lanes_of_wave f fd) (hm : mg "lanes_of_wave" = some (.ref f)) : Fd P w K mg base "lanes_of_wave" 2 ["guard", "wave", "number"] (c_lanes_of_wave A) := by
  exact ⟨_, _, (fd_lanes_of_wave T h_cut F), hm, F.kp, F.binds fun _ _ _ _ _ _ us hl => match us, hl with | [_, _, _], _ => rfl⟩
abbrev s_waves_with_lanes : Stmt := top 38
abbrev sc_N_waves_with_lanes : List Str := ["guard", "wave", "many"]
theorem sc_waves_with_lanes : FnScope ["guard", "wave", "many"] ["guard", "wave"] (defScope s_waves_with_lanes) := ⟨rfl, rfl, rfl, by decide +kernel, rfl, by decide +kernel, by decide +kernel⟩
theorem fd_waves_with_lanes {P : Program} {w : World} {K : PySem.W.Frag} {mg : Str → Option Value} {base : Heap} {A : Cls} {fI f : Addr} {fd : FuncData} (T : Glob w K mg A fI) (h_count_lanes : Fd P w K mg base "count_lanes" 3 ["guard"] (c_count_lanes A)) (h_nth_lane : Fd P w K mg base "nth_lane" 4 ["guard", "number"] (c_nth_lane A)) (F : Fun K "waves_with_lanes" "waves_with_lanes" s_waves_with_lanes f fd) : FnG P w K mg base 5 f fd ["guard", "wave"] (LSp K (c_waves_with_lanes A)) :=
  fnD_of (t := fun e => rd_waves_with_lanes A (c_count_lanes A) (c_nth_lane A) e) F sc_waves_with_lanes rfl len_waves_with_lanes (fun cdv A0 outer s H E O e C tk ow => ((dss_cons (ds_asg (de_callF h_count_lanes (C.room.mono (by decide)) C.gd C.px rfl (da_cons (dv 0) da_nil)) (dg_name (i := 2) sc_waves_with_lanes.nd rfl (Or.inl rfl)))
    (dss_cons (ds_if (PW.pt (dw_or (dt_cmp (op_eqA C.room.units) od_eqA (dv 2) de_int (nomark _)) (dw_or1 (dt_cmp op_ge od_ge (de_ix (dv 0) de_int) (dv 1) (nomark _))))) (dss_one (ds_ret (dv 2))) dss_nil)
    (dss_one (ds_ret (de_add (de_sub (de_fdiv (de_callF h_nth_lane (C.room.mono (by decide)) C.gd C.px rfl (da_cons (dv 0) (da_cons (de_sub (dv 2) de_int) da_nil))) (dv 1)) (de_fdiv (de_callF h_nth_lane (C.room.mono (by decide)) C.gd C.px rfl (da_cons (dv 0) (da_cons de_int da_nil))) (dv 1))) de_int))))))) ok_waves_with_lanes
theorem dh_waves_with_lanes {P : Program} {w : World} {K : PySem.W.Frag} {mg : Str → Option Value} {base : Heap} {A : Cls} {fI f : Addr} {fd : FuncData} (T : Glob w K mg A fI) (h_count_lanes : Fd P w K mg base "count_lanes" 3 ["guard"] (c_count_lanes A)) (h_nth_lane : Fd P w K mg base "nth_lane" 4 ["guard", "number"] (c_nth_lane A)) (F : Fun K "waves_with_lanes" "waves_with_lanes" s_waves_with_lanes f fd) (hm : mg "waves_with_lanes" = some (.ref f)) : Fd P w K mg base "waves_with_lanes" 5 ["guard", "wave"] (c_waves_with_lanes A) := by
  exact ⟨_, _, (fd_waves_with_lanes T h_count_lanes h_nth_lane F), hm, F.kp, F.binds fun _ _ _ _ _ _ us hl => match us, hl with | [_, _], _ => rfl⟩
abbrev s_waves_by_lanes : Stmt := top 39
abbrev sc_N_waves_by_lanes : List Str := ["guard", "wave", "low", "high", "step", "_", "first", "last", "ends", "found", "period", "between", "turn", "lanes", "number"]
theorem sc_waves_by_lanes : FnScope ["guard", "wave", "low", "high", "step", "_", "first", "last", "ends", "found", "period", "between", "turn", "lanes", "number"] ["guard", "wave"] (defScope s_waves_by_lanes) := ⟨rfl, rfl, rfl, by decide +kernel, rfl, by decide +kernel, by decide +kernel⟩
theorem fd_waves_by_lanes {P : Program} {w : World} {K : PySem.W.Frag} {mg : Str → Option Value} {base : Heap} {A : Cls} {fI f : Addr} {fd : FuncData} (T : Glob w K mg A fI) (h_count_lanes : Fd P w K mg base "count_lanes" 3 ["guard"] (c_count_lanes A)) (h_lanes_of_wave : Fd P w K mg base "lanes_of_wave" 2 ["guard", "wave", "number"] (c_lanes_of_wave A)) (F : Fun K "waves_by_lanes" "waves_by_lanes" s_waves_by_lanes f fd) : FnG P w K mg base 4 f fd ["guard", "wave"] (LSp K (c_waves_by_lanes A)) :=
  fnD_of (t := fun e => rd_waves_by_lanes A (c_count_lanes A) (c_lanes_of_wave A) e) F sc_waves_by_lanes rfl len_waves_by_lanes (fun cdv A0 outer s H E O e C tk ow => ((dss_cons (ds_asg (dv 0) (dg_tup rfl (dgs_cons (dg_name (i := 2) sc_waves_by_lanes.nd rfl (Or.inl rfl)) (dgs_cons (dg_name (i := 3) sc_waves_by_lanes.nd rfl (Or.inl rfl)) (dgs_cons (dg_name (i := 4) sc_waves_by_lanes.nd rfl (Or.inl rfl)) (dgs_cons (dg_name (i := 5) sc_waves_by_lanes.nd rfl (Or.inl rfl)) dgs_nil))))))
    (dss_cons (ds_if (dt_cmp op_ge od_ge (dv 4) (dv 1) (nomark _)) (dss_one (ds_ret (de_lst (da_cons (de_tup (da_cons de_int (da_cons (de_callF h_count_lanes (C.room.mono (by decide)) C.gd C.px rfl (da_cons (dv 0) da_nil)) da_nil))) da_nil)))) dss_nil)
    (dss_cons (ds_if (dt_cmp (op_eqA C.room.units) od_eqA (dv 2) (dv 3) (nomark _)) (dss_one (ds_ret (de_lst da_nil))) dss_nil)
    (dss_cons (ds_par (i := 6) (j := 7) rfl sc_waves_by_lanes.nd rfl rfl (by decide) rfl rfl (da_cons (de_fdiv (dv 2) (dv 1)) (da_cons (de_fdiv (de_sub (dv 3) de_int) (dv 1)) da_nil)))
    (dss_cons (ds_asg (de_if (dt_cmp (op_eqA C.room.units) od_eqA (dv 6) (dv 7) (nomark _)) (de_lst (da_cons (dv 6) da_nil)) (de_lst (da_cons (dv 6) (da_cons (dv 7) da_nil)))) (dg_name (i := 8) sc_waves_by_lanes.nd rfl (Or.inl rfl)))
    (dss_cons (ds_setLcM (i := 9) rfl sc_waves_by_lanes.nd rfl rfl (sw_true rfl rfl rfl (by decide +kernel)) (di_sq (dv 8)) (blkOk_by (show blkC sc_N_waves_by_lanes (defScope s_waves_by_lanes) _ [("number", 14)] = true from by decide +kernel)) (by decide) (fun _ _ _ _ _ => (dg_name (i := 14) sc_waves_by_lanes.nd rfl (Or.inl rfl))) (fun _ _ _ _ _ => dts_nil) (fun _ _ _ _ _ => (de_tup (da_cons (de_callF h_count_lanes (C.room.mono (by decide)) C.gd passesN rfl (da_cons (de_callF h_lanes_of_wave (C.room.mono (by decide)) C.gd passesN rfl (da_cons (dv 0) (da_cons (dv 1) (da_cons (dv 14) da_nil)))) da_nil)) (da_cons de_int da_nil)))) (own := [("number", 14)]))
    (dss_cons (ds_par (i := 10) (j := 11) rfl sc_waves_by_lanes.nd rfl rfl (by decide) rfl rfl (da_cons (de_fdiv (dv 4) (de_callFun (id := "math.gcd") (pe_callBfun cr_gcd rfl T.m_gcd (da_cons (dv 4) (da_cons (dv 1) da_nil))) cd_gcd)) (da_cons (de_sub (de_sub (dv 7) (dv 6)) de_int) da_nil)))
    (dss_cons (ds_for ow rfl (di_rw1 rfl T.z_range (da_cons (de_callB (call_min2 rfl) cd_min2 rfl T.z_min (by decide +kernel) (da_cons (dv 10) (da_cons (dv 11) da_nil))) da_nil)) (dg_name (i := 12) sc_waves_by_lanes.nd rfl (Or.inl rfl)) (dss_cons (ds_asg (de_callF h_count_lanes (C.room.mono (by decide)) C.gd C.px rfl (da_cons (de_callF h_lanes_of_wave (C.room.mono (by decide)) C.gd C.px rfl (da_cons (dv 0) (da_cons (dv 1) (da_cons (de_add (de_add (dv 6) de_int) (dv 12)) da_nil)))) da_nil)) (dg_name (i := 13) sc_waves_by_lanes.nd rfl (Or.inl rfl)))
    (dss_one (ds_expr (de_append (pe_bm PySem.F.plainAttrs_list PySem.F.slot_list_append PySem.F.type_list_append mt_append (dv 9) (pa_cons (de_tup (da_cons (dv 13) (da_cons (de_fdiv (de_sub (de_add (de_sub (dv 11) (dv 12)) (dv 10)) de_int) (dv 10)) da_nil))) pa_nil)))))))
    (dss_one (ds_ret (dvF 9))))))))))))) ok_waves_by_lanes
theorem dh_waves_by_lanes {P : Program} {w : World} {K : PySem.W.Frag} {mg : Str → Option Value} {base : Heap} {A : Cls} {fI f : Addr} {fd : FuncData} (T : Glob w K mg A fI) (h_count_lanes : Fd P w K mg base "count_lanes" 3 ["guard"] (c_count_lanes A)) (h_lanes_of_wave : Fd P w K mg base "lanes_of_wave" 2 ["guard", "wave", "number"] (c_lanes_of_wave A)) (F : Fun K "waves_by_lanes" "waves_by_lanes" s_waves_by_lanes f fd) (hm : mg "waves_by_lanes" = some (.ref f)) : Fd P w K mg base "waves_by_lanes" 4 ["guard", "wave"] (c_waves_by_lanes A) := by
  exact ⟨_, _, (fd_waves_by_lanes T h_count_lanes h_lanes_of_wave F), hm, F.kp, F.binds fun _ _ _ _ _ _ us hl => match us, hl with | [_, _], _ => rfl⟩
abbrev s_count_waves : Stmt := top 40
abbrev sc_N_count_waves : List Str := ["kernel", "statement", "wave"]
theorem sc_count_waves : FnScope ["kernel", "statement", "wave"] ["kernel", "statement", "wave"] (defScope s_count_waves) := ⟨rfl, rfl, rfl, by decide +kernel, rfl, by decide +kernel, by decide +kernel⟩
theorem fd_count_waves {P : Program} {w : World} {K : PySem.W.Frag} {mg : Str → Option Value} {base : Heap} {A : Cls} {fI f : Addr} {fd : FuncData} (T : Glob w K mg A fI) (h_check_statement_number : Fd P w K mg base "check_statement_number" 3 ["kernel", "statement"] (c_check_statement_number A)) (h_check_wave : Fd P w K mg base "check_wave" 1 ["wave"] (c_check_wave A)) (h_waves_with_lanes : Fd P w K mg base "waves_with_lanes" 5 ["guard", "wave"] (c_waves_with_lanes A)) (hq_Kernel_statements : Pp P w K mg base A.Kernel "statements" 1 ["self"] (c_Kernel_statements A)) (F : Fun K "count_waves" "count_waves" s_count_waves f fd) : FnG P w K mg base 6 f fd ["kernel", "statement", "wave"] (LSp K (c_count_waves A)) :=
  fnD_of (t := fun e => rd_count_waves A (c_Kernel_statements A) (c_check_statement_number A) (c_check_wave A) (c_waves_with_lanes A) e) F sc_count_waves rfl len_count_waves (fun cdv A0 outer s H E O e C tk ow => ((dss_cons (ds_expr (de_callF h_check_statement_number (C.room.mono (by decide)) C.gd C.px rfl (da_cons (dv 0) (da_cons (dv 1) da_nil))))
    (dss_cons (ds_expr (de_callF h_check_wave (C.room.mono (by decide)) C.gd C.px rfl (da_cons (dv 2) da_nil)))
    (dss_one (ds_ret (de_callF h_waves_with_lanes (C.room.mono (by decide)) C.gd C.px rfl (da_cons (de_ix (de_ix (de_propP T.k_Kernel hq_Kernel_statements (C.room.mono (by decide)) C.gd (dv 0)) (dv 1)) de_int) (da_cons (dv 2) da_nil))))))))) ok_count_waves
theorem dh_count_waves {P : Program} {w : World} {K : PySem.W.Frag} {mg : Str → Option Value} {base : Heap} {A : Cls} {fI f : Addr} {fd : FuncData} (T : Glob w K mg A fI) (h_check_statement_number : Fd P w K mg base "check_statement_number" 3 ["kernel", "statement"] (c_check_statement_number A)) (h_check_wave : Fd P w K mg base "check_wave" 1 ["wave"] (c_check_wave A)) (h_waves_with_lanes : Fd P w K mg base "waves_with_lanes" 5 ["guard", "wave"] (c_waves_with_lanes A)) (hq_Kernel_statements : Pp P w K mg base A.Kernel "statements" 1 ["self"] (c_Kernel_statements A)) (F : Fun K "count_waves" "count_waves" s_count_waves f fd) (hm : mg "count_waves" = some (.ref f)) : Fd P w K mg base "count_waves" 6 ["kernel", "statement", "wave"] (c_count_waves A) := by
  exact ⟨_, _, (fd_count_waves T h_check_statement_number h_check_wave h_waves_with_lanes hq_Kernel_statements F), hm, F.kp, F.binds fun _ _ _ _ _ _ us hl => match us, hl with | [_, _, _], _ => rfl⟩
abbrev s_full_waves : Stmt := top 41
abbrev sc_N_full_waves : List Str := ["kernel", "statement", "wave", "guard", "lanes", "low", "high", "step", "_", "behind"]
theorem sc_full_waves : FnScope ["kernel", "statement", "wave", "guard", "lanes", "low", "high", "step", "_", "behind"] ["kernel", "statement", "wave"] (defScope s_full_waves) := ⟨rfl, rfl, rfl, by decide +kernel, rfl, by decide +kernel, by decide +kernel⟩
theorem fd_full_waves {P : Program} {w : World} {K : PySem.W.Frag} {mg : Str → Option Value} {base : Heap} {A : Cls} {fI f : Addr} {fd : FuncData} (T : Glob w K mg A fI) (h_check_statement_number : Fd P w K mg base "check_statement_number" 3 ["kernel", "statement"] (c_check_statement_number A)) (h_check_wave : Fd P w K mg base "check_wave" 1 ["wave"] (c_check_wave A)) (h_count_lanes : Fd P w K mg base "count_lanes" 3 ["guard"] (c_count_lanes A)) (h_has_lane : Fd P w K mg base "has_lane" 3 ["guard", "lane"] (c_has_lane A)) (hq_Kernel_lanes : Pp P w K mg base A.Kernel "lanes" 1 ["self"] (c_Kernel_lanes A)) (hq_Kernel_statements : Pp P w K mg base A.Kernel "statements" 1 ["self"] (c_Kernel_statements A)) (F : Fun K "full_waves" "full_waves" s_full_waves f fd) : FnG P w K mg base 4 f fd ["kernel", "statement", "wave"] (LSp K (c_full_waves A)) :=
  fnD_of (t := fun e => rd_full_waves A (c_Kernel_lanes A) (c_Kernel_statements A) (c_check_statement_number A) (c_check_wave A) (c_count_lanes A) (c_has_lane A) e) F sc_full_waves rfl len_full_waves (fun cdv A0 outer s H E O e C tk ow => ((dss_cons (ds_expr (de_callF h_check_statement_number (C.room.mono (by decide)) C.gd C.px rfl (da_cons (dv 0) (da_cons (dv 1) da_nil))))
    (dss_cons (ds_expr (de_callF h_check_wave (C.room.mono (by decide)) C.gd C.px rfl (da_cons (dv 2) da_nil)))
    (dss_cons (ds_par (i := 3) (j := 4) rfl sc_full_waves.nd rfl rfl (by decide) rfl rfl (da_cons (de_ix (de_ix (de_propP T.k_Kernel hq_Kernel_statements (C.room.mono (by decide)) C.gd (dv 0)) (dv 1)) de_int) (da_cons (de_propP T.k_Kernel hq_Kernel_lanes (C.room.mono (by decide)) C.gd (dv 0)) da_nil)))
    (dss_cons (ds_asg (dv 3) (dg_tup rfl (dgs_cons (dg_name (i := 5) sc_full_waves.nd rfl (Or.inl rfl)) (dgs_cons (dg_name (i := 6) sc_full_waves.nd rfl (Or.inl rfl)) (dgs_cons (dg_name (i := 7) sc_full_waves.nd rfl (Or.inl rfl)) (dgs_cons (dg_name (i := 8) sc_full_waves.nd rfl (Or.inl rfl)) dgs_nil))))))
    (dss_cons (ds_if (dt_cmp (op_eqA C.room.units) od_eqA (dv 2) de_int (nomark _)) (dss_one (ds_ret (de_callF h_count_lanes (C.room.mono (by decide)) C.gd C.px rfl (da_cons (dv 3) da_nil)))) dss_nil)
    (dss_cons (ds_if (dt_cmp op_gt od_gt (dv 7) de_int (nomark _)) (dss_one (ds_ret (de_if (PW.pt (dw_and (dt_cmp (op_eqA C.room.units) od_eqA (de_mod (de_sub (dv 4) de_int) (dv 2)) de_int (nomark _)) (dw_and1 (dt_truth (de_callF h_has_lane (C.room.mono (by decide)) C.gd C.px rfl (da_cons (dv 3) (da_cons (de_sub (dv 4) de_int) da_nil))))))) de_int de_int))) dss_nil)
    (dss_cons (ds_asg (de_if (dt_cmp (op_eqA C.room.units) od_eqA (dv 6) (dv 4) (nomark _)) (de_fdiv (de_sub (de_add (dv 6) (dv 2)) de_int) (dv 2)) (de_fdiv (dv 6) (dv 2))) (dg_name (i := 9) sc_full_waves.nd rfl (Or.inl rfl)))
    (dss_one (ds_ret (de_callB (call_max2 rfl) cd_max2 rfl T.z_max (by decide +kernel) (da_cons de_int (da_cons (de_sub (dv 9) (de_fdiv (de_sub (de_add (dv 5) (dv 2)) de_int) (dv 2))) da_nil)))))))))))))) ok_full_waves
theorem dh_full_waves {P : Program} {w : World} {K : PySem.W.Frag} {mg : Str → Option Value} {base : Heap} {A : Cls} {fI f : Addr} {fd : FuncData} (T : Glob w K mg A fI) (h_check_statement_number : Fd P w K mg base "check_statement_number" 3 ["kernel", "statement"] (c_check_statement_number A)) (h_check_wave : Fd P w K mg base "check_wave" 1 ["wave"] (c_check_wave A)) (h_count_lanes : Fd P w K mg base "count_lanes" 3 ["guard"] (c_count_lanes A)) (h_has_lane : Fd P w K mg base "has_lane" 3 ["guard", "lane"] (c_has_lane A)) (hq_Kernel_lanes : Pp P w K mg base A.Kernel "lanes" 1 ["self"] (c_Kernel_lanes A)) (hq_Kernel_statements : Pp P w K mg base A.Kernel "statements" 1 ["self"] (c_Kernel_statements A)) (F : Fun K "full_waves" "full_waves" s_full_waves f fd) (hm : mg "full_waves" = some (.ref f)) : Fd P w K mg base "full_waves" 4 ["kernel", "statement", "wave"] (c_full_waves A) := by
  exact ⟨_, _, (fd_full_waves T h_check_statement_number h_check_wave h_count_lanes h_has_lane hq_Kernel_lanes hq_Kernel_statements F), hm, F.kp, F.binds fun _ _ _ _ _ _ us hl => match us, hl with | [_, _, _], _ => rfl⟩
abbrev s_lanes_in_wave : Stmt := top 42
abbrev sc_N_lanes_in_wave : List Str := ["kernel", "statement", "wave", "number"]
theorem sc_lanes_in_wave : FnScope ["kernel", "statement", "wave", "number"] ["kernel", "statement", "wave", "number"] (defScope s_lanes_in_wave) := ⟨rfl, rfl, rfl, by decide +kernel, rfl, by decide +kernel, by decide +kernel⟩
theorem fd_lanes_in_wave {P : Program} {w : World} {K : PySem.W.Frag} {mg : Str → Option Value} {base : Heap} {A : Cls} {fI f : Addr} {fd : FuncData} (T : Glob w K mg A fI) (h_check_number_of_wave : Fd P w K mg base "check_number_of_wave" 3 ["kernel", "wave", "number"] (c_check_number_of_wave A)) (h_check_statement_number : Fd P w K mg base "check_statement_number" 3 ["kernel", "statement"] (c_check_statement_number A)) (h_check_wave : Fd P w K mg base "check_wave" 1 ["wave"] (c_check_wave A)) (h_count_lanes : Fd P w K mg base "count_lanes" 3 ["guard"] (c_count_lanes A)) (h_lanes_of_wave : Fd P w K mg base "lanes_of_wave" 2 ["guard", "wave", "number"] (c_lanes_of_wave A)) (hq_Kernel_statements : Pp P w K mg base A.Kernel "statements" 1 ["self"] (c_Kernel_statements A)) (F : Fun K "lanes_in_wave" "lanes_in_wave" s_lanes_in_wave f fd) : FnG P w K mg base 4 f fd ["kernel", "statement", "wave", "number"] (LSp K (c_lanes_in_wave A)) :=
  fnD_of (t := fun e => rd_lanes_in_wave A (c_Kernel_statements A) (c_check_number_of_wave A) (c_check_statement_number A) (c_check_wave A) (c_count_lanes A) (c_lanes_of_wave A) e) F sc_lanes_in_wave rfl len_lanes_in_wave (fun cdv A0 outer s H E O e C tk ow => ((dss_cons (ds_expr (de_callF h_check_statement_number (C.room.mono (by decide)) C.gd C.px rfl (da_cons (dv 0) (da_cons (dv 1) da_nil))))
    (dss_cons (ds_expr (de_callF h_check_wave (C.room.mono (by decide)) C.gd C.px rfl (da_cons (dv 2) da_nil)))
    (dss_cons (ds_expr (de_callF h_check_number_of_wave (C.room.mono (by decide)) C.gd C.px rfl (da_cons (dv 0) (da_cons (dv 2) (da_cons (dv 3) da_nil)))))
    (dss_one (ds_ret (de_callF h_count_lanes (C.room.mono (by decide)) C.gd C.px rfl (da_cons (de_callF h_lanes_of_wave (C.room.mono (by decide)) C.gd C.px rfl (da_cons (de_ix (de_ix (de_propP T.k_Kernel hq_Kernel_statements (C.room.mono (by decide)) C.gd (dv 0)) (dv 1)) de_int) (da_cons (dv 2) (da_cons (dv 3) da_nil)))) da_nil))))))))) ok_lanes_in_wave
theorem dh_lanes_in_wave {P : Program} {w : World} {K : PySem.W.Frag} {mg : Str → Option Value} {base : Heap} {A : Cls} {fI f : Addr} {fd : FuncData} (T : Glob w K mg A fI) (h_check_number_of_wave : Fd P w K mg base "check_number_of_wave" 3 ["kernel", "wave", "number"] (c_check_number_of_wave A)) (h_check_statement_number : Fd P w K mg base "check_statement_number" 3 ["kernel", "statement"] (c_check_statement_number A)) (h_check_wave : Fd P w K mg base "check_wave" 1 ["wave"] (c_check_wave A)) (h_count_lanes : Fd P w K mg base "count_lanes" 3 ["guard"] (c_count_lanes A)) (h_lanes_of_wave : Fd P w K mg base "lanes_of_wave" 2 ["guard", "wave", "number"] (c_lanes_of_wave A)) (hq_Kernel_statements : Pp P w K mg base A.Kernel "statements" 1 ["self"] (c_Kernel_statements A)) (F : Fun K "lanes_in_wave" "lanes_in_wave" s_lanes_in_wave f fd) (hm : mg "lanes_in_wave" = some (.ref f)) : Fd P w K mg base "lanes_in_wave" 4 ["kernel", "statement", "wave", "number"] (c_lanes_in_wave A) := by
  exact ⟨_, _, (fd_lanes_in_wave T h_check_number_of_wave h_check_statement_number h_check_wave h_count_lanes h_lanes_of_wave hq_Kernel_statements F), hm, F.kp, F.binds fun _ _ _ _ _ _ us hl => match us, hl with | [_, _, _, _], _ => rfl⟩
abbrev s_check_banks : Stmt := top 45
abbrev sc_N_check_banks : List Str := ["banks"]
theorem sc_check_banks : FnScope ["banks"] ["banks"] (defScope s_check_banks) := ⟨rfl, rfl, rfl, by decide +kernel, rfl, by decide +kernel, by decide +kernel⟩
theorem fd_check_banks {P : Program} {w : World} {K : PySem.W.Frag} {mg : Str → Option Value} {base : Heap} {A : Cls} {fI f : Addr} {fd : FuncData} (T : Glob w K mg A fI) (F : Fun K "check_banks" "check_banks" s_check_banks f fd) : FnG P w K mg base 1 f fd ["banks"] (LSp K (c_check_banks A)) :=
  fnD_of (t := fun e => rd_check_banks A e) F sc_check_banks rfl len_check_banks (fun cdv A0 outer s H E O e C tk ow => ((dss_one (ds_if (PW.pt (dw_or (dt_cmp op_lt od_lt (dv 0) de_int (nomark _)) (dw_or1 (dt_cmp op_gt od_gt (dv 0) (de_gint rfl T.g_MOST_BANKS) (nomark _))))) (dss_one (ds_raise rfl T.e_InvalidNumber C.room tk (dv 0))) dss_nil)))) ok_check_banks
theorem dh_check_banks {P : Program} {w : World} {K : PySem.W.Frag} {mg : Str → Option Value} {base : Heap} {A : Cls} {fI f : Addr} {fd : FuncData} (T : Glob w K mg A fI) (F : Fun K "check_banks" "check_banks" s_check_banks f fd) (hm : mg "check_banks" = some (.ref f)) : Fd P w K mg base "check_banks" 1 ["banks"] (c_check_banks A) := by
  exact ⟨_, _, (fd_check_banks T F), hm, F.kp, F.binds fun _ _ _ _ _ _ us hl => match us, hl with | [_], _ => rfl⟩
abbrev s_degree_of_lanes : Stmt := top 46
abbrev sc_N_degree_of_lanes : List Str := ["lanes", "move", "banks", "period"]
theorem sc_degree_of_lanes : FnScope ["lanes", "move", "banks", "period"] ["lanes", "move", "banks"] (defScope s_degree_of_lanes) := ⟨rfl, rfl, rfl, by decide +kernel, rfl, by decide +kernel, by decide +kernel⟩
theorem fd_degree_of_lanes {P : Program} {w : World} {K : PySem.W.Frag} {mg : Str → Option Value} {base : Heap} {A : Cls} {fI f : Addr} {fd : FuncData} (T : Glob w K mg A fI) (F : Fun K "degree_of_lanes" "degree_of_lanes" s_degree_of_lanes f fd) : FnG P w K mg base 1 f fd ["lanes", "move", "banks"] (LSp K (c_degree_of_lanes A)) :=
  fnD_of (t := fun e => rd_degree_of_lanes A e) F sc_degree_of_lanes rfl len_degree_of_lanes (fun cdv A0 outer s H E O e C tk ow => ((dss_cons (ds_if (dt_cmp (op_eqA C.room.units) od_eqA (dv 1) de_int (nomark _)) (dss_one (ds_ret (de_callB (call_min2 rfl) cd_min2 rfl T.z_min (by decide +kernel) (da_cons (dv 0) (da_cons de_int da_nil))))) dss_nil)
    (dss_cons (ds_asg (de_fdiv (dv 2) (de_callFun (id := "math.gcd") (pe_callBfun cr_gcd rfl T.m_gcd (da_cons (dv 1) (da_cons (dv 2) da_nil))) cd_gcd)) (dg_name (i := 3) sc_degree_of_lanes.nd rfl (Or.inl rfl)))
    (dss_one (ds_ret (de_fdiv (de_sub (de_add (dv 0) (dv 3)) de_int) (dv 3)))))))) ok_degree_of_lanes
theorem dh_degree_of_lanes {P : Program} {w : World} {K : PySem.W.Frag} {mg : Str → Option Value} {base : Heap} {A : Cls} {fI f : Addr} {fd : FuncData} (T : Glob w K mg A fI) (F : Fun K "degree_of_lanes" "degree_of_lanes" s_degree_of_lanes f fd) (hm : mg "degree_of_lanes" = some (.ref f)) : Fd P w K mg base "degree_of_lanes" 1 ["lanes", "move", "banks"] (c_degree_of_lanes A) := by
  exact ⟨_, _, (fd_degree_of_lanes T F), hm, F.kp, F.binds fun _ _ _ _ _ _ us hl => match us, hl with | [_, _, _], _ => rfl⟩
abbrev s_degrees : Stmt := top 47
abbrev sc_N_degrees : List Str := ["kernel", "access", "wave", "banks", "guard", "a", "_", "lanes", "waves"]
theorem sc_degrees : FnScope ["kernel", "access", "wave", "banks", "guard", "a", "_", "lanes", "waves"] ["kernel", "access", "wave", "banks"] (defScope s_degrees) := ⟨rfl, rfl, rfl, by decide +kernel, rfl, by decide +kernel, by decide +kernel⟩
theorem fd_degrees {P : Program} {w : World} {K : PySem.W.Frag} {mg : Str → Option Value} {base : Heap} {A : Cls} {fI f : Addr} {fd : FuncData} (T : Glob w K mg A fI) (h_check_banks : Fd P w K mg base "check_banks" 1 ["banks"] (c_check_banks A)) (h_check_wave : Fd P w K mg base "check_wave" 1 ["wave"] (c_check_wave A)) (h_degree_of_lanes : Fd P w K mg base "degree_of_lanes" 1 ["lanes", "move", "banks"] (c_degree_of_lanes A)) (h_doing_at : Fd P w K mg base "doing_at" 3 ["kernel", "number"] (c_doing_at A)) (h_waves_by_lanes : Fd P w K mg base "waves_by_lanes" 4 ["guard", "wave"] (c_waves_by_lanes A)) (F : Fun K "degrees" "degrees" s_degrees f fd) : FnG P w K mg base 5 f fd ["kernel", "access", "wave", "banks"] (LSp K (c_degrees A)) :=
  fnD_of (t := fun e => rd_degrees A (c_check_banks A) (c_check_wave A) (c_degree_of_lanes A) (c_doing_at A) (c_waves_by_lanes A) e) F sc_degrees rfl len_degrees (fun cdv A0 outer s H E O e C tk ow => ((dss_cons (ds_asg (de_fld T.k_Doing T.a_Doing_side (de_callF h_doing_at (C.room.mono (by decide)) C.gd C.px rfl (da_cons (dv 0) (da_cons (dv 1) da_nil)))) (dg_tup rfl (dgs_cons (dg_name (i := 4) sc_degrees.nd rfl (Or.inr rfl)) (dgs_cons (dg_name (i := 5) sc_degrees.nd rfl (Or.inr rfl)) (dgs_cons (dg_name (i := 6) sc_degrees.nd rfl (Or.inl rfl)) (dgs_cons (dg_name (i := 6) sc_degrees.nd rfl (Or.inl rfl)) dgs_nil))))))
    (dss_cons (ds_expr (de_callF h_check_wave (C.room.mono (by decide)) C.gd C.px rfl (da_cons (dv 2) da_nil)))
    (dss_cons (ds_expr (de_callF h_check_banks (C.room.mono (by decide)) C.gd C.px rfl (da_cons (dv 3) da_nil)))
    (dss_one (ds_ret (de_lc rfl sc_degrees.nd (di_sq (de_callF h_waves_by_lanes (C.room.mono (by decide)) C.gd C.px rfl (da_cons (dv 4) (da_cons (dv 2) da_nil)))) (blkOk_by (show blkC sc_N_degrees (defScope s_degrees) _ [("lanes", 7), ("waves", 8)] = true from by decide +kernel)) (by decide) (fun _ _ _ _ _ => (dg_tup rfl (dgs_cons (dg_name (i := 7) sc_degrees.nd rfl (Or.inl rfl)) (dgs_cons (dg_name (i := 8) sc_degrees.nd rfl (Or.inl rfl)) dgs_nil)))) (fun _ _ _ _ _ => dts_nil) (fun _ _ _ _ _ => (de_tup (da_cons (de_callF h_degree_of_lanes (C.room.mono (by decide)) C.gd passesN rfl (da_cons (dv 7) (da_cons (de_mul (dv 5) (de_ix (dv 4) de_int)) (da_cons (dv 3) da_nil)))) (da_cons (dv 8) da_nil)))) (own := [("lanes", 7), ("waves", 8)]))))))))) ok_degrees
theorem dh_degrees {P : Program} {w : World} {K : PySem.W.Frag} {mg : Str → Option Value} {base : Heap} {A : Cls} {fI f : Addr} {fd : FuncData} (T : Glob w K mg A fI) (h_check_banks : Fd P w K mg base "check_banks" 1 ["banks"] (c_check_banks A)) (h_check_wave : Fd P w K mg base "check_wave" 1 ["wave"] (c_check_wave A)) (h_degree_of_lanes : Fd P w K mg base "degree_of_lanes" 1 ["lanes", "move", "banks"] (c_degree_of_lanes A)) (h_doing_at : Fd P w K mg base "doing_at" 3 ["kernel", "number"] (c_doing_at A)) (h_waves_by_lanes : Fd P w K mg base "waves_by_lanes" 4 ["guard", "wave"] (c_waves_by_lanes A)) (F : Fun K "degrees" "degrees" s_degrees f fd) (hm : mg "degrees" = some (.ref f)) : Fd P w K mg base "degrees" 5 ["kernel", "access", "wave", "banks"] (c_degrees A) := by
  exact ⟨_, _, (fd_degrees T h_check_banks h_check_wave h_degree_of_lanes h_doing_at h_waves_by_lanes F), hm, F.kp, F.binds fun _ _ _ _ _ _ us hl => match us, hl with | [_, _, _, _], _ => rfl⟩
abbrev s_degree_of_wave : Stmt := top 48
abbrev sc_N_degree_of_wave : List Str := ["kernel", "access", "wave", "banks", "number", "guard", "a", "_"]
theorem sc_degree_of_wave : FnScope ["kernel", "access", "wave", "banks", "number", "guard", "a", "_"] ["kernel", "access", "wave", "banks", "number"] (defScope s_degree_of_wave) := ⟨rfl, rfl, rfl, by decide +kernel, rfl, by decide +kernel, by decide +kernel⟩
theorem fd_degree_of_wave {P : Program} {w : World} {K : PySem.W.Frag} {mg : Str → Option Value} {base : Heap} {A : Cls} {fI f : Addr} {fd : FuncData} (T : Glob w K mg A fI) (h_check_banks : Fd P w K mg base "check_banks" 1 ["banks"] (c_check_banks A)) (h_check_number_of_wave : Fd P w K mg base "check_number_of_wave" 3 ["kernel", "wave", "number"] (c_check_number_of_wave A)) (h_check_wave : Fd P w K mg base "check_wave" 1 ["wave"] (c_check_wave A)) (h_count_lanes : Fd P w K mg base "count_lanes" 3 ["guard"] (c_count_lanes A)) (h_degree_of_lanes : Fd P w K mg base "degree_of_lanes" 1 ["lanes", "move", "banks"] (c_degree_of_lanes A)) (h_doing_at : Fd P w K mg base "doing_at" 3 ["kernel", "number"] (c_doing_at A)) (h_lanes_of_wave : Fd P w K mg base "lanes_of_wave" 2 ["guard", "wave", "number"] (c_lanes_of_wave A)) (F : Fun K "degree_of_wave" "degree_of_wave" s_degree_of_wave f fd) : FnG P w K mg base 4 f fd ["kernel", "access", "wave", "banks", "number"] (LSp K (c_degree_of_wave A)) :=
  fnD_of (t := fun e => rd_degree_of_wave A (c_check_banks A) (c_check_number_of_wave A) (c_check_wave A) (c_count_lanes A) (c_degree_of_lanes A) (c_doing_at A) (c_lanes_of_wave A) e) F sc_degree_of_wave rfl len_degree_of_wave (fun cdv A0 outer s H E O e C tk ow => ((dss_cons (ds_asg (de_fld T.k_Doing T.a_Doing_side (de_callF h_doing_at (C.room.mono (by decide)) C.gd C.px rfl (da_cons (dv 0) (da_cons (dv 1) da_nil)))) (dg_tup rfl (dgs_cons (dg_name (i := 5) sc_degree_of_wave.nd rfl (Or.inl rfl)) (dgs_cons (dg_name (i := 6) sc_degree_of_wave.nd rfl (Or.inl rfl)) (dgs_cons (dg_name (i := 7) sc_degree_of_wave.nd rfl (Or.inl rfl)) (dgs_cons (dg_name (i := 7) sc_degree_of_wave.nd rfl (Or.inl rfl)) dgs_nil))))))
    (dss_cons (ds_expr (de_callF h_check_wave (C.room.mono (by decide)) C.gd C.px rfl (da_cons (dv 2) da_nil)))
    (dss_cons (ds_expr (de_callF h_check_banks (C.room.mono (by decide)) C.gd C.px rfl (da_cons (dv 3) da_nil)))
    (dss_cons (ds_expr (de_callF h_check_number_of_wave (C.room.mono (by decide)) C.gd C.px rfl (da_cons (dv 0) (da_cons (dv 2) (da_cons (dv 4) da_nil)))))
    (dss_one (ds_ret (de_callF h_degree_of_lanes (C.room.mono (by decide)) C.gd C.px rfl (da_cons (de_callF h_count_lanes (C.room.mono (by decide)) C.gd C.px rfl (da_cons (de_callF h_lanes_of_wave (C.room.mono (by decide)) C.gd C.px rfl (da_cons (dv 5) (da_cons (dv 2) (da_cons (dv 4) da_nil)))) da_nil)) (da_cons (de_mul (dv 6) (de_ix (dv 5) de_int)) (da_cons (dv 3) da_nil)))))))))))) ok_degree_of_wave
theorem dh_degree_of_wave {P : Program} {w : World} {K : PySem.W.Frag} {mg : Str → Option Value} {base : Heap} {A : Cls} {fI f : Addr} {fd : FuncData} (T : Glob w K mg A fI) (h_check_banks : Fd P w K mg base "check_banks" 1 ["banks"] (c_check_banks A)) (h_check_number_of_wave : Fd P w K mg base "check_number_of_wave" 3 ["kernel", "wave", "number"] (c_check_number_of_wave A)) (h_check_wave : Fd P w K mg base "check_wave" 1 ["wave"] (c_check_wave A)) (h_count_lanes : Fd P w K mg base "count_lanes" 3 ["guard"] (c_count_lanes A)) (h_degree_of_lanes : Fd P w K mg base "degree_of_lanes" 1 ["lanes", "move", "banks"] (c_degree_of_lanes A)) (h_doing_at : Fd P w K mg base "doing_at" 3 ["kernel", "number"] (c_doing_at A)) (h_lanes_of_wave : Fd P w K mg base "lanes_of_wave" 2 ["guard", "wave", "number"] (c_lanes_of_wave A)) (F : Fun K "degree_of_wave" "degree_of_wave" s_degree_of_wave f fd) (hm : mg "degree_of_wave" = some (.ref f)) : Fd P w K mg base "degree_of_wave" 4 ["kernel", "access", "wave", "banks", "number"] (c_degree_of_wave A) := by
  exact ⟨_, _, (fd_degree_of_wave T h_check_banks h_check_number_of_wave h_check_wave h_count_lanes h_degree_of_lanes h_doing_at h_lanes_of_wave F), hm, F.kp, F.binds fun _ _ _ _ _ _ us hl => match us, hl with | [_, _, _, _, _], _ => rfl⟩
abbrev s_total_degree : Stmt := top 49
abbrev sc_N_total_degree : List Str := ["kernel", "access", "wave", "banks", "degree", "waves"]
theorem sc_total_degree : FnScope ["kernel", "access", "wave", "banks", "degree", "waves"] ["kernel", "access", "wave", "banks"] (defScope s_total_degree) := ⟨rfl, rfl, rfl, by decide +kernel, rfl, by decide +kernel, by decide +kernel⟩
theorem fd_total_degree {P : Program} {w : World} {K : PySem.W.Frag} {mg : Str → Option Value} {base : Heap} {A : Cls} {fI f : Addr} {fd : FuncData} (T : Glob w K mg A fI) (h_degrees : Fd P w K mg base "degrees" 5 ["kernel", "access", "wave", "banks"] (c_degrees A)) (F : Fun K "total_degree" "total_degree" s_total_degree f fd) : FnG P w K mg base 6 f fd ["kernel", "access", "wave", "banks"] (LSp K (c_total_degree A)) :=
  fnD_of (t := fun e => rd_total_degree A (c_degrees A) e) F sc_total_degree rfl len_total_degree (fun cdv A0 outer s H E O e C tk ow => ((dss_one (ds_ret (de_callB (cr_sum rfl) cd_sum rfl T.z_sum (by decide +kernel) (da_cons (de_lc rfl sc_total_degree.nd (di_sq (de_callF h_degrees (C.room.mono (by decide)) C.gd C.px rfl (da_cons (dv 0) (da_cons (dv 1) (da_cons (dv 2) (da_cons (dv 3) da_nil)))))) (blkOk_by (show blkC sc_N_total_degree (defScope s_total_degree) _ [("degree", 4), ("waves", 5)] = true from by decide +kernel)) (by decide) (fun _ _ _ _ _ => (dg_tup rfl (dgs_cons (dg_name (i := 4) sc_total_degree.nd rfl (Or.inl rfl)) (dgs_cons (dg_name (i := 5) sc_total_degree.nd rfl (Or.inl rfl)) dgs_nil)))) (fun _ _ _ _ _ => dts_nil) (fun _ _ _ _ _ => (de_mul (dv 4) (dv 5))) (own := [("degree", 4), ("waves", 5)])) da_nil)))))) ok_total_degree
theorem dh_total_degree {P : Program} {w : World} {K : PySem.W.Frag} {mg : Str → Option Value} {base : Heap} {A : Cls} {fI f : Addr} {fd : FuncData} (T : Glob w K mg A fI) (h_degrees : Fd P w K mg base "degrees" 5 ["kernel", "access", "wave", "banks"] (c_degrees A)) (F : Fun K "total_degree" "total_degree" s_total_degree f fd) (hm : mg "total_degree" = some (.ref f)) : Fd P w K mg base "total_degree" 6 ["kernel", "access", "wave", "banks"] (c_total_degree A) := by
  exact ⟨_, _, (fd_total_degree T h_degrees F), hm, F.kp, F.binds fun _ _ _ _ _ _ us hl => match us, hl with | [_, _, _, _], _ => rfl⟩
abbrev s_greatest_degree : Stmt := top 50
abbrev sc_N_greatest_degree : List Str := ["kernel", "access", "wave", "banks", "degree", "waves"]
theorem sc_greatest_degree : FnScope ["kernel", "access", "wave", "banks", "degree", "waves"] ["kernel", "access", "wave", "banks"] (defScope s_greatest_degree) := ⟨rfl, rfl, rfl, by decide +kernel, rfl, by decide +kernel, by decide +kernel⟩
theorem fd_greatest_degree {P : Program} {w : World} {K : PySem.W.Frag} {mg : Str → Option Value} {base : Heap} {A : Cls} {fI f : Addr} {fd : FuncData} (T : Glob w K mg A fI) (h_degrees : Fd P w K mg base "degrees" 5 ["kernel", "access", "wave", "banks"] (c_degrees A)) (F : Fun K "greatest_degree" "greatest_degree" s_greatest_degree f fd) : FnG P w K mg base 6 f fd ["kernel", "access", "wave", "banks"] (LSp K (c_greatest_degree A)) :=
  fnD_of (t := fun e => rd_greatest_degree A (c_degrees A) e) F sc_greatest_degree rfl len_greatest_degree (fun cdv A0 outer s H E O e C tk ow => ((dss_one (ds_ret (de_maxD rfl T.z_max (by decide +kernel) (da_cons (de_lc rfl sc_greatest_degree.nd (di_sq (de_callF h_degrees (C.room.mono (by decide)) C.gd C.px rfl (da_cons (dv 0) (da_cons (dv 1) (da_cons (dv 2) (da_cons (dv 3) da_nil)))))) (blkOk_by (show blkC sc_N_greatest_degree (defScope s_greatest_degree) _ [("degree", 4), ("waves", 5)] = true from by decide +kernel)) (by decide) (fun _ _ _ _ _ => (dg_tup rfl (dgs_cons (dg_name (i := 4) sc_greatest_degree.nd rfl (Or.inl rfl)) (dgs_cons (dg_name (i := 5) sc_greatest_degree.nd rfl (Or.inl rfl)) dgs_nil)))) (fun _ _ _ _ _ => (dts_one (dt_cmp op_gt od_gt (dv 5) de_int (nomark _)))) (fun _ _ _ _ _ => (dv 4)) (own := [("degree", 4), ("waves", 5)])) da_nil) (dk_cons de_int dk_nil)))))) ok_greatest_degree
theorem dh_greatest_degree {P : Program} {w : World} {K : PySem.W.Frag} {mg : Str → Option Value} {base : Heap} {A : Cls} {fI f : Addr} {fd : FuncData} (T : Glob w K mg A fI) (h_degrees : Fd P w K mg base "degrees" 5 ["kernel", "access", "wave", "banks"] (c_degrees A)) (F : Fun K "greatest_degree" "greatest_degree" s_greatest_degree f fd) (hm : mg "greatest_degree" = some (.ref f)) : Fd P w K mg base "greatest_degree" 6 ["kernel", "access", "wave", "banks"] (c_greatest_degree A) := by
  exact ⟨_, _, (fd_greatest_degree T h_degrees F), hm, F.kp, F.binds fun _ _ _ _ _ _ us hl => match us, hl with | [_, _, _, _], _ => rfl⟩
abbrev s_check_lanes : Stmt := top 52
abbrev sc_N_check_lanes : List Str := ["lanes"]
theorem sc_check_lanes : FnScope ["lanes"] ["lanes"] (defScope s_check_lanes) := ⟨rfl, rfl, rfl, by decide +kernel, rfl, by decide +kernel, by decide +kernel⟩
theorem fd_check_lanes {P : Program} {w : World} {K : PySem.W.Frag} {mg : Str → Option Value} {base : Heap} {A : Cls} {fI f : Addr} {fd : FuncData} (T : Glob w K mg A fI) (F : Fun K "check_lanes" "check_lanes" s_check_lanes f fd) : FnG P w K mg base 1 f fd ["lanes"] (LSp K (c_check_lanes A)) :=
  fnD_of (t := fun e => rd_check_lanes A e) F sc_check_lanes rfl len_check_lanes (fun cdv A0 outer s H E O e C tk ow => ((dss_one (ds_if (dt_cmp op_lt od_lt (dv 0) de_int (nomark _)) (dss_one (ds_raise rfl T.e_InvalidLanes C.room tk (dv 0))) dss_nil)))) ok_check_lanes
theorem dh_check_lanes {P : Program} {w : World} {K : PySem.W.Frag} {mg : Str → Option Value} {base : Heap} {A : Cls} {fI f : Addr} {fd : FuncData} (T : Glob w K mg A fI) (F : Fun K "check_lanes" "check_lanes" s_check_lanes f fd) (hm : mg "check_lanes" = some (.ref f)) : Fd P w K mg base "check_lanes" 1 ["lanes"] (c_check_lanes A) := by
  exact ⟨_, _, (fd_check_lanes T F), hm, F.kp, F.binds fun _ _ _ _ _ _ us hl => match us, hl with | [_], _ => rfl⟩
abbrev s_check_statement : Stmt := top 53
abbrev sc_N_check_statement : List Str := ["statement", "number", "lanes"]
theorem sc_check_statement : FnScope ["statement", "number", "lanes"] ["statement", "number", "lanes"] (defScope s_check_statement) := ⟨rfl, rfl, rfl, by decide +kernel, rfl, by decide +kernel, by decide +kernel⟩
theorem fd_check_statement {P : Program} {w : World} {K : PySem.W.Frag} {mg : Str → Option Value} {base : Heap} {A : Cls} {fI f : Addr} {fd : FuncData} (T : Glob w K mg A fI) (h_is_statement : Fd P w K mg base "is_statement" 2 ["statement", "lanes"] (c_is_statement A)) (F : Fun K "check_statement" "check_statement" s_check_statement f fd) : FnG P w K mg base 3 f fd ["statement", "number", "lanes"] (LSp K (c_check_statement A)) :=
  fnD_of (t := fun e => rd_check_statement A (c_is_statement A) e) F sc_check_statement rfl len_check_statement (fun cdv A0 outer s H E O e C tk ow => ((dss_one (ds_if (dt_not (dt_truth (de_callF h_is_statement (C.room.mono (by decide)) C.gd C.px rfl (da_cons (dv 0) (da_cons (dv 2) da_nil))))) (dss_one (ds_raise rfl T.e_InvalidStatement C.room tk (dv 1))) dss_nil)))) ok_check_statement
theorem dh_check_statement {P : Program} {w : World} {K : PySem.W.Frag} {mg : Str → Option Value} {base : Heap} {A : Cls} {fI f : Addr} {fd : FuncData} (T : Glob w K mg A fI) (h_is_statement : Fd P w K mg base "is_statement" 2 ["statement", "lanes"] (c_is_statement A)) (F : Fun K "check_statement" "check_statement" s_check_statement f fd) (hm : mg "check_statement" = some (.ref f)) : Fd P w K mg base "check_statement" 3 ["statement", "number", "lanes"] (c_check_statement A) := by
  exact ⟨_, _, (fd_check_statement T h_is_statement F), hm, F.kp, F.binds fun _ _ _ _ _ _ us hl => match us, hl with | [_, _, _], _ => rfl⟩
abbrev s_check_barriers : Stmt := top 54
abbrev sc_N_check_barriers : List Str := ["barriers", "many", "before", "number", "barrier"]
theorem sc_check_barriers : FnScope ["barriers", "many", "before", "number", "barrier"] ["barriers", "many"] (defScope s_check_barriers) := ⟨rfl, rfl, rfl, by decide +kernel, rfl, by decide +kernel, by decide +kernel⟩
theorem fd_check_barriers {P : Program} {w : World} {K : PySem.W.Frag} {mg : Str → Option Value} {base : Heap} {A : Cls} {fI f : Addr} {fd : FuncData} (T : Glob w K mg A fI) (F : Fun K "check_barriers" "check_barriers" s_check_barriers f fd) : FnG P w K mg base 1 f fd ["barriers", "many"] (LSp K (c_check_barriers A)) :=
  fnD_of (t := fun e => rd_check_barriers A e) F sc_check_barriers rfl len_check_barriers (fun cdv A0 outer s H E O e C tk ow => ((dss_cons (ds_asg de_int (dg_name (i := 2) sc_check_barriers.nd rfl (Or.inl rfl)))
    (dss_one (ds_for ow rfl (di_enX rfl T.z_enumerate (da_cons (dv 0) da_nil)) (dg_tup rfl (dgs_cons (dg_name (i := 3) sc_check_barriers.nd rfl (Or.inl rfl)) (dgs_cons (dg_name (i := 4) sc_check_barriers.nd rfl (Or.inl rfl)) dgs_nil))) (dss_cons (ds_if (PW.pt (dw_or (dt_cmp op_leX od_leX (dv 4) (dv 2) (nomark _)) (dw_or1 (dt_cmp op_ge od_ge (dv 4) (dv 1) (nomark _))))) (dss_one (ds_raise rfl T.e_InvalidBarrier C.room tk (dv 3))) dss_nil)
    (dss_one (ds_asg (dv 4) (dg_name (i := 2) sc_check_barriers.nd rfl (Or.inl rfl)))))))))) ok_check_barriers
theorem dh_check_barriers {P : Program} {w : World} {K : PySem.W.Frag} {mg : Str → Option Value} {base : Heap} {A : Cls} {fI f : Addr} {fd : FuncData} (T : Glob w K mg A fI) (F : Fun K "check_barriers" "check_barriers" s_check_barriers f fd) (hm : mg "check_barriers" = some (.ref f)) : Fd P w K mg base "check_barriers" 1 ["barriers", "many"] (c_check_barriers A) := by
  exact ⟨_, _, (fd_check_barriers T F), hm, F.kp, F.binds fun _ _ _ _ _ _ us hl => match us, hl with | [_, _], _ => rfl⟩
abbrev s_Kernel___init__ : Stmt := inClass (top 55) 0
abbrev sc_N_Kernel___init__ : List Str := ["self", "lanes", "statements", "barriers", "number", "statement"]
theorem sc_Kernel___init__ : FnScope ["self", "lanes", "statements", "barriers", "number", "statement"] ["self", "lanes", "statements", "barriers"] (defScope s_Kernel___init__) := ⟨rfl, rfl, rfl, by decide +kernel, rfl, by decide +kernel, by decide +kernel⟩
theorem fd_Kernel___init__ {P : Program} {w : World} {K : PySem.W.Frag} {mg : Str → Option Value} {base : Heap} {A : Cls} {fI f : Addr} {fd : FuncData} (T : Glob w K mg A fI) {E_Kernel___init__ : Addr} (h_check_barriers : Fd P w K mg base "check_barriers" 1 ["barriers", "many"] (c_check_barriers A)) (h_check_lanes : Fd P w K mg base "check_lanes" 1 ["lanes"] (c_check_lanes A)) (h_check_statement : Fd P w K mg base "check_statement" 3 ["statement", "number", "lanes"] (c_check_statement A)) (F : FunD K "__init__" "Kernel.__init__" (defArgs s_Kernel___init__) (defBody s_Kernel___init__) (defScope s_Kernel___init__) [.ref E_Kernel___init__] [] f fd) : FnG P w K mg base 4 f fd ["self", "lanes", "statements", "barriers"] (LSp K (c_Kernel___init__ A)) :=
  fnD_ofD (t := fun e => rd_Kernel___init__ A (c_check_barriers A) (c_check_lanes A) (c_check_statement A) e) F sc_Kernel___init__ rfl len_Kernel___init__ (fun cdv A0 outer s H E O e C tk ow => ((dss_cons (ds_expr (de_callF h_check_lanes (C.room.mono (by decide)) C.gd C.px rfl (da_cons (dv 1) da_nil)))
    (dss_cons (ds_for ow rfl (di_enX rfl T.z_enumerate (da_cons (dv 2) da_nil)) (dg_tup rfl (dgs_cons (dg_name (i := 4) sc_Kernel___init__.nd rfl (Or.inl rfl)) (dgs_cons (dg_name (i := 5) sc_Kernel___init__.nd rfl (Or.inl rfl)) dgs_nil))) (dss_one (ds_expr (de_callF h_check_statement (C.room.mono (by decide)) C.gd C.px rfl (da_cons (dv 5) (da_cons (dv 4) (da_cons (dv 1) da_nil)))))))
    (dss_cons (ds_expr (de_callF h_check_barriers (C.room.mono (by decide)) C.gd C.px rfl (da_cons (dv 3) (da_cons (de_callB call_len cd_len rfl T.z_len PySem.boot_len (da_cons (dv 2) da_nil)) da_nil))))
    (dss_cons (ds_fld T.k_Kernel T.a_Kernel__lanes (dv 0) (dv 1))
    (dss_cons (ds_fld T.k_Kernel T.a_Kernel__statements (dv 0) (de_callTy call_list_of cd_list rfl T.z_list (by decide +kernel) (da_cons (dv 2) da_nil)))
    (dss_cons (ds_fld T.k_Kernel T.a_Kernel__barriers (dv 0) (de_callTy call_list_of cd_list rfl T.z_list (by decide +kernel) (da_cons (dv 3) da_nil)))
    (dss_one (ds_fld T.k_Kernel T.a_Kernel__racing (dv 0) de_non)))))))))) ok_Kernel___init__
theorem dhi_Kernel_1 {P : Program} {w : World} {K : PySem.W.Frag} {mg : Str → Option Value} {base : Heap} {A : Cls} {fI f : Addr} {fd : FuncData} (T : Glob w K mg A fI) {E_Kernel___init__ : Addr} (h_check_barriers : Fd P w K mg base "check_barriers" 1 ["barriers", "many"] (c_check_barriers A)) (h_check_lanes : Fd P w K mg base "check_lanes" 1 ["lanes"] (c_check_lanes A)) (h_check_statement : Fd P w K mg base "check_statement" 3 ["statement", "number", "lanes"] (c_check_statement A)) (F : FunD K "__init__" "Kernel.__init__" (defArgs s_Kernel___init__) (defBody s_Kernel___init__) (defScope s_Kernel___init__) [.ref E_Kernel___init__] [] f fd) (M : Mk K A.Kernel f) (hm : mg "Kernel" = some (.ref A.Kernel)) (hr : ∀ F H, RepL K F H [.tup []] [.ref E_Kernel___init__]) : Im P w K mg base "Kernel" A.Kernel 4 ["self", "lanes", "statements", "barriers"] (c_Kernel___init__ A) [.tup []] := by
  obtain ⟨ds, hv, hb⟩ := F.binds1 (ps := ["self", "lanes", "statements", "barriers"]) 3 0 (by simp) rfl (fun T kV doc pm an cdv ct us its h1 h2 => match us, its, h1, h2 with | [_, _, _], [_], _, _ => ⟨_, rfl, rfl⟩)
  exact ⟨_, _, ds, _, (fd_Kernel___init__ T h_check_barriers h_check_lanes h_check_statement F), M, hm, hb, hv, hr⟩
abbrev s_Kernel_lanes : Stmt := inClass (top 55) 1
abbrev sc_N_Kernel_lanes : List Str := ["self"]
theorem sc_Kernel_lanes : FnScope ["self"] ["self"] (defScope s_Kernel_lanes) := ⟨rfl, rfl, rfl, by decide +kernel, rfl, by decide +kernel, by decide +kernel⟩
theorem fd_Kernel_lanes {P : Program} {w : World} {K : PySem.W.Frag} {mg : Str → Option Value} {base : Heap} {A : Cls} {fI f : Addr} {fd : FuncData} (T : Glob w K mg A fI) (F : Fun K "lanes" "Kernel.lanes" s_Kernel_lanes f fd) : FnG P w K mg base 1 f fd ["self"] (LSp K (c_Kernel_lanes A)) :=
  fnD_of (t := fun e => rd_Kernel_lanes A e) F sc_Kernel_lanes rfl len_Kernel_lanes (fun cdv A0 outer s H E O e C tk ow => ((dss_one (ds_ret (de_fld T.k_Kernel T.a_Kernel__lanes (dv 0)))))) ok_Kernel_lanes
theorem dhq_Kernel_lanes {P : Program} {w : World} {K : PySem.W.Frag} {mg : Str → Option Value} {base : Heap} {A : Cls} {fI f : Addr} {fd : FuncData} (T : Glob w K mg A fI) (F : Fun K "lanes" "Kernel.lanes" s_Kernel_lanes f fd) {pr : Addr} (hp : PropOf K A.Kernel "lanes" pr f) : Pp P w K mg base A.Kernel "lanes" 1 ["self"] (c_Kernel_lanes A) := by
  exact ⟨_, _, _, hp, (fd_Kernel_lanes T F), F.binds fun _ _ _ _ _ _ us hl => match us, hl with | [_], _ => rfl⟩
abbrev s_Kernel_statements : Stmt := inClass (top 55) 2
abbrev sc_N_Kernel_statements : List Str := ["self"]
theorem sc_Kernel_statements : FnScope ["self"] ["self"] (defScope s_Kernel_statements) := ⟨rfl, rfl, rfl, by decide +kernel, rfl, by decide +kernel, by decide +kernel⟩
theorem fd_Kernel_statements {P : Program} {w : World} {K : PySem.W.Frag} {mg : Str → Option Value} {base : Heap} {A : Cls} {fI f : Addr} {fd : FuncData} (T : Glob w K mg A fI) (F : Fun K "statements" "Kernel.statements" s_Kernel_statements f fd) : FnG P w K mg base 1 f fd ["self"] (LSp K (c_Kernel_statements A)) :=
  fnD_of (t := fun e => rd_Kernel_statements A e) F sc_Kernel_statements rfl len_Kernel_statements (fun cdv A0 outer s H E O e C tk ow => ((dss_one (ds_ret (de_callTy call_list_of cd_list rfl T.z_list (by decide +kernel) (da_cons (de_fld T.k_Kernel T.a_Kernel__statements (dv 0)) da_nil)))))) ok_Kernel_statements
theorem dhq_Kernel_statements {P : Program} {w : World} {K : PySem.W.Frag} {mg : Str → Option Value} {base : Heap} {A : Cls} {fI f : Addr} {fd : FuncData} (T : Glob w K mg A fI) (F : Fun K "statements" "Kernel.statements" s_Kernel_statements f fd) {pr : Addr} (hp : PropOf K A.Kernel "statements" pr f) : Pp P w K mg base A.Kernel "statements" 1 ["self"] (c_Kernel_statements A) := by
  exact ⟨_, _, _, hp, (fd_Kernel_statements T F), F.binds fun _ _ _ _ _ _ us hl => match us, hl with | [_], _ => rfl⟩
abbrev s_Kernel_barriers : Stmt := inClass (top 55) 3
abbrev sc_N_Kernel_barriers : List Str := ["self"]
theorem sc_Kernel_barriers : FnScope ["self"] ["self"] (defScope s_Kernel_barriers) := ⟨rfl, rfl, rfl, by decide +kernel, rfl, by decide +kernel, by decide +kernel⟩
theorem fd_Kernel_barriers {P : Program} {w : World} {K : PySem.W.Frag} {mg : Str → Option Value} {base : Heap} {A : Cls} {fI f : Addr} {fd : FuncData} (T : Glob w K mg A fI) (F : Fun K "barriers" "Kernel.barriers" s_Kernel_barriers f fd) : FnG P w K mg base 1 f fd ["self"] (LSp K (c_Kernel_barriers A)) :=
  fnD_of (t := fun e => rd_Kernel_barriers A e) F sc_Kernel_barriers rfl len_Kernel_barriers (fun cdv A0 outer s H E O e C tk ow => ((dss_one (ds_ret (de_callTy call_list_of cd_list rfl T.z_list (by decide +kernel) (da_cons (de_fld T.k_Kernel T.a_Kernel__barriers (dv 0)) da_nil)))))) ok_Kernel_barriers
theorem dhq_Kernel_barriers {P : Program} {w : World} {K : PySem.W.Frag} {mg : Str → Option Value} {base : Heap} {A : Cls} {fI f : Addr} {fd : FuncData} (T : Glob w K mg A fI) (F : Fun K "barriers" "Kernel.barriers" s_Kernel_barriers f fd) {pr : Addr} (hp : PropOf K A.Kernel "barriers" pr f) : Pp P w K mg base A.Kernel "barriers" 1 ["self"] (c_Kernel_barriers A) := by
  exact ⟨_, _, _, hp, (fd_Kernel_barriers T F), F.binds fun _ _ _ _ _ _ us hl => match us, hl with | [_], _ => rfl⟩
abbrev s_Kernel___len__ : Stmt := inClass (top 55) 5
abbrev sc_N_Kernel___len__ : List Str := ["self"]
theorem sc_Kernel___len__ : FnScope ["self"] ["self"] (defScope s_Kernel___len__) := ⟨rfl, rfl, rfl, by decide +kernel, rfl, by decide +kernel, by decide +kernel⟩
theorem fd_Kernel___len__ {P : Program} {w : World} {K : PySem.W.Frag} {mg : Str → Option Value} {base : Heap} {A : Cls} {fI f : Addr} {fd : FuncData} (T : Glob w K mg A fI) (F : Fun K "__len__" "Kernel.__len__" s_Kernel___len__ f fd) : FnG P w K mg base 1 f fd ["self"] (LSp K (c_Kernel___len__ A)) :=
  fnD_of (t := fun e => rd_Kernel___len__ A e) F sc_Kernel___len__ rfl len_Kernel___len__ (fun cdv A0 outer s H E O e C tk ow => ((dss_one (ds_ret (de_callB call_len cd_len rfl T.z_len PySem.boot_len (da_cons (de_fld T.k_Kernel T.a_Kernel__statements (dv 0)) da_nil)))))) ok_Kernel___len__
theorem dhm_Kernel___len__ {P : Program} {w : World} {K : PySem.W.Frag} {mg : Str → Option Value} {base : Heap} {A : Cls} {fI f : Addr} {fd : FuncData} (T : Glob w K mg A fI) (F : Fun K "__len__" "Kernel.__len__" s_Kernel___len__ f fd) (hp : Meth K A.Kernel "__len__" f) : Mm P w K mg base A.Kernel "__len__" 1 ["self"] (c_Kernel___len__ A) := by
  exact ⟨_, _, hp, (fd_Kernel___len__ T F), F.binds fun _ _ _ _ _ _ us hl => match us, hl with | [_], _ => rfl⟩
abbrev s_sum_of_quotients : Stmt := top 57
abbrev sc_N_sum_of_quotients : List Str := ["many", "divisor", "factor", "start", "total", "top"]
theorem sc_sum_of_quotients : FnScope ["many", "divisor", "factor", "start", "total", "top"] ["many", "divisor", "factor", "start"] (defScope s_sum_of_quotients) := ⟨rfl, rfl, rfl, by decide +kernel, rfl, by decide +kernel, by decide +kernel⟩
theorem fd_sum_of_quotients {P : Program} {w : World} {K : PySem.W.Frag} {mg : Str → Option Value} {base : Heap} {A : Cls} {fI f : Addr} {fd : FuncData} (T : Glob w K mg A fI) (F : Fun K "sum_of_quotients" "sum_of_quotients" s_sum_of_quotients f fd) : FnG P w K mg base 1 f fd ["many", "divisor", "factor", "start"] (LSp K (c_sum_of_quotients A)) :=
  fnD_of (t := fun e => rd_sum_of_quotients A e) F sc_sum_of_quotients rfl len_sum_of_quotients (fun cdv A0 outer s H E O e C tk ow => ((dss_cons (ds_asg de_int (dg_name (i := 4) sc_sum_of_quotients.nd rfl (Or.inl rfl)))
    (dss_cons (ds_while ow (dt_cmp op_gt od_gt (dv 0) de_int (nomark _)) (dss_cons (ds_aug (i := 4) sc_sum_of_quotients.nd rfl (Or.inl rfl) (de_add (de_mul (de_fdiv (de_mul (dv 0) (de_sub (dv 0) de_int)) de_int) (de_fdiv (dv 2) (dv 1))) (de_mul (dv 0) (de_fdiv (dv 3) (dv 1)))) ip_add)
    (dss_cons (ds_par (i := 2) (j := 3) rfl sc_sum_of_quotients.nd rfl rfl (by decide) rfl rfl (da_cons (de_mod (dv 2) (dv 1)) (da_cons (de_mod (dv 3) (dv 1)) da_nil)))
    (dss_cons (ds_asg (de_add (de_mul (dv 2) (dv 0)) (dv 3)) (dg_name (i := 5) sc_sum_of_quotients.nd rfl (Or.inl rfl)))
    (dss_cons (ds_par (i := 0) (j := 3) rfl sc_sum_of_quotients.nd rfl rfl (by decide) rfl rfl (da_cons (de_fdiv (dv 5) (dv 1)) (da_cons (de_mod (dv 5) (dv 1)) da_nil)))
    (dss_one (ds_par (i := 1) (j := 2) rfl sc_sum_of_quotients.nd rfl rfl (by decide) rfl rfl (da_cons (dv 2) (da_cons (dv 1) da_nil)))))))))
    (dss_one (ds_ret (dv 4))))))) ok_sum_of_quotients
theorem dh_sum_of_quotients {P : Program} {w : World} {K : PySem.W.Frag} {mg : Str → Option Value} {base : Heap} {A : Cls} {fI f : Addr} {fd : FuncData} (T : Glob w K mg A fI) (F : Fun K "sum_of_quotients" "sum_of_quotients" s_sum_of_quotients f fd) (hm : mg "sum_of_quotients" = some (.ref f)) : Fd P w K mg base "sum_of_quotients" 1 ["many", "divisor", "factor", "start"] (c_sum_of_quotients A) := by
  exact ⟨_, _, (fd_sum_of_quotients T F), hm, F.kp, F.binds fun _ _ _ _ _ _ us hl => match us, hl with | [_, _, _, _], _ => rfl⟩
abbrev s_check_size : Stmt := top 59
abbrev sc_N_check_size : List Str := ["size"]
theorem sc_check_size : FnScope ["size"] ["size"] (defScope s_check_size) := ⟨rfl, rfl, rfl, by decide +kernel, rfl, by decide +kernel, by decide +kernel⟩
theorem fd_check_size {P : Program} {w : World} {K : PySem.W.Frag} {mg : Str → Option Value} {base : Heap} {A : Cls} {fI f : Addr} {fd : FuncData} (T : Glob w K mg A fI) (F : Fun K "check_size" "check_size" s_check_size f fd) : FnG P w K mg base 1 f fd ["size"] (LSp K (c_check_size A)) :=
  fnD_of (t := fun e => rd_check_size A e) F sc_check_size rfl len_check_size (fun cdv A0 outer s H E O e C tk ow => ((dss_one (ds_if (dt_cmp op_lt od_lt (dv 0) de_int (nomark _)) (dss_one (ds_raise rfl T.e_InvalidNumber C.room tk (dv 0))) dss_nil)))) ok_check_size
theorem dh_check_size {P : Program} {w : World} {K : PySem.W.Frag} {mg : Str → Option Value} {base : Heap} {A : Cls} {fI f : Addr} {fd : FuncData} (T : Glob w K mg A fI) (F : Fun K "check_size" "check_size" s_check_size f fd) (hm : mg "check_size" = some (.ref f)) : Fd P w K mg base "check_size" 1 ["size"] (c_check_size A) := by
  exact ⟨_, _, (fd_check_size T F), hm, F.kp, F.binds fun _ _ _ _ _ _ us hl => match us, hl with | [_], _ => rfl⟩
abbrev s_lines_of_wave : Stmt := top 60
abbrev sc_N_lines_of_wave : List Str := ["kernel", "access", "wave", "size", "number", "guard", "a", "b", "_", "lanes", "place"]
theorem sc_lines_of_wave : FnScope ["kernel", "access", "wave", "size", "number", "guard", "a", "b", "_", "lanes", "place"] ["kernel", "access", "wave", "size", "number"] (defScope s_lines_of_wave) := ⟨rfl, rfl, rfl, by decide +kernel, rfl, by decide +kernel, by decide +kernel⟩
theorem fd_lines_of_wave {P : Program} {w : World} {K : PySem.W.Frag} {mg : Str → Option Value} {base : Heap} {A : Cls} {fI f : Addr} {fd : FuncData} (T : Glob w K mg A fI) (h_check_number_of_wave : Fd P w K mg base "check_number_of_wave" 3 ["kernel", "wave", "number"] (c_check_number_of_wave A)) (h_check_size : Fd P w K mg base "check_size" 1 ["size"] (c_check_size A)) (h_check_wave : Fd P w K mg base "check_wave" 1 ["wave"] (c_check_wave A)) (h_count_lanes : Fd P w K mg base "count_lanes" 3 ["guard"] (c_count_lanes A)) (h_doing_at : Fd P w K mg base "doing_at" 3 ["kernel", "number"] (c_doing_at A)) (h_lanes_of_wave : Fd P w K mg base "lanes_of_wave" 2 ["guard", "wave", "number"] (c_lanes_of_wave A)) (h_nth_lane : Fd P w K mg base "nth_lane" 4 ["guard", "number"] (c_nth_lane A)) (F : Fun K "lines_of_wave" "lines_of_wave" s_lines_of_wave f fd) : FnG P w K mg base 5 f fd ["kernel", "access", "wave", "size", "number"] (LSp K (c_lines_of_wave A)) :=
  fnD_of (t := fun e => rd_lines_of_wave A (c_check_number_of_wave A) (c_check_size A) (c_check_wave A) (c_count_lanes A) (c_doing_at A) (c_lanes_of_wave A) (c_nth_lane A) e) F sc_lines_of_wave rfl len_lines_of_wave (fun cdv A0 outer s H E O e C tk ow => ((dss_cons (ds_asg (de_fld T.k_Doing T.a_Doing_side (de_callF h_doing_at (C.room.mono (by decide)) C.gd C.px rfl (da_cons (dv 0) (da_cons (dv 1) da_nil)))) (dg_tup rfl (dgs_cons (dg_name (i := 5) sc_lines_of_wave.nd rfl (Or.inl rfl)) (dgs_cons (dg_name (i := 6) sc_lines_of_wave.nd rfl (Or.inr rfl)) (dgs_cons (dg_name (i := 7) sc_lines_of_wave.nd rfl (Or.inr rfl)) (dgs_cons (dg_name (i := 8) sc_lines_of_wave.nd rfl (Or.inl rfl)) dgs_nil))))))
    (dss_cons (ds_expr (de_callF h_check_wave (C.room.mono (by decide)) C.gd C.px rfl (da_cons (dv 2) da_nil)))
    (dss_cons (ds_expr (de_callF h_check_size (C.room.mono (by decide)) C.gd C.px rfl (da_cons (dv 3) da_nil)))
    (dss_cons (ds_expr (de_callF h_check_number_of_wave (C.room.mono (by decide)) C.gd C.px rfl (da_cons (dv 0) (da_cons (dv 2) (da_cons (dv 4) da_nil)))))
    (dss_cons (ds_asg (de_callF h_lanes_of_wave (C.room.mono (by decide)) C.gd C.px rfl (da_cons (dv 5) (da_cons (dv 2) (da_cons (dv 4) da_nil)))) (dg_name (i := 9) sc_lines_of_wave.nd rfl (Or.inr rfl)))
    (dss_one (ds_ret (de_lenSetC rfl T.z_len rfl sc_lines_of_wave.nd (di_rw1 rfl T.z_range (da_cons (de_callF h_count_lanes (C.room.mono (by decide)) C.gd C.px rfl (da_cons (dv 9) da_nil)) da_nil)) (blkOk_by (show blkC sc_N_lines_of_wave (defScope s_lines_of_wave) _ [("place", 10)] = true from by decide +kernel)) (by decide) (fun _ _ _ _ _ => (dg_name (i := 10) sc_lines_of_wave.nd rfl (Or.inl rfl))) (fun _ _ _ _ _ => dts_nil) (fun _ _ _ _ _ => (de_fdiv (de_add (de_mul (dv 6) (de_callF h_nth_lane (C.room.mono (by decide)) C.gd passesN rfl (da_cons (dv 9) (da_cons (dv 10) da_nil)))) (dv 7)) (dv 3))) (own := [("place", 10)]))))))))))) ok_lines_of_wave
theorem dh_lines_of_wave {P : Program} {w : World} {K : PySem.W.Frag} {mg : Str → Option Value} {base : Heap} {A : Cls} {fI f : Addr} {fd : FuncData} (T : Glob w K mg A fI) (h_check_number_of_wave : Fd P w K mg base "check_number_of_wave" 3 ["kernel", "wave", "number"] (c_check_number_of_wave A)) (h_check_size : Fd P w K mg base "check_size" 1 ["size"] (c_check_size A)) (h_check_wave : Fd P w K mg base "check_wave" 1 ["wave"] (c_check_wave A)) (h_count_lanes : Fd P w K mg base "count_lanes" 3 ["guard"] (c_count_lanes A)) (h_doing_at : Fd P w K mg base "doing_at" 3 ["kernel", "number"] (c_doing_at A)) (h_lanes_of_wave : Fd P w K mg base "lanes_of_wave" 2 ["guard", "wave", "number"] (c_lanes_of_wave A)) (h_nth_lane : Fd P w K mg base "nth_lane" 4 ["guard", "number"] (c_nth_lane A)) (F : Fun K "lines_of_wave" "lines_of_wave" s_lines_of_wave f fd) (hm : mg "lines_of_wave" = some (.ref f)) : Fd P w K mg base "lines_of_wave" 5 ["kernel", "access", "wave", "size", "number"] (c_lines_of_wave A) := by
  exact ⟨_, _, (fd_lines_of_wave T h_check_number_of_wave h_check_size h_check_wave h_count_lanes h_doing_at h_lanes_of_wave h_nth_lane F), hm, F.kp, F.binds fun _ _ _ _ _ _ us hl => match us, hl with | [_, _, _, _, _], _ => rfl⟩
abbrev s_count_changes : Stmt := top 61
abbrev sc_N_count_changes : List Str := ["side", "wave", "size", "guard", "a", "b", "_", "step", "neighbours", "period", "total", "place", "lane", "many", "cell", "move", "ahead"]
theorem sc_count_changes : FnScope ["side", "wave", "size", "guard", "a", "b", "_", "step", "neighbours", "period", "total", "place", "lane", "many", "cell", "move", "ahead"] ["side", "wave", "size"] (defScope s_count_changes) := ⟨rfl, rfl, rfl, by decide +kernel, rfl, by decide +kernel, by decide +kernel⟩
theorem fd_count_changes {P : Program} {w : World} {K : PySem.W.Frag} {mg : Str → Option Value} {base : Heap} {A : Cls} {fI f : Addr} {fd : FuncData} (T : Glob w K mg A fI) (h_count_lanes : Fd P w K mg base "count_lanes" 3 ["guard"] (c_count_lanes A)) (h_nth_lane : Fd P w K mg base "nth_lane" 4 ["guard", "number"] (c_nth_lane A)) (h_sum_of_quotients : Fd P w K mg base "sum_of_quotients" 1 ["many", "divisor", "factor", "start"] (c_sum_of_quotients A)) (F : Fun K "count_changes" "count_changes" s_count_changes f fd) : FnG P w K mg base 5 f fd ["side", "wave", "size"] (LSp K (c_count_changes A)) :=
  fnD_of (t := fun e => rd_count_changes A (c_count_lanes A) (c_nth_lane A) (c_sum_of_quotients A) e) F sc_count_changes rfl len_count_changes (fun cdv A0 outer s H E O e C tk ow => ((dss_cons (ds_asg (dv 0) (dg_tup rfl (dgs_cons (dg_name (i := 3) sc_count_changes.nd rfl (Or.inl rfl)) (dgs_cons (dg_name (i := 4) sc_count_changes.nd rfl (Or.inl rfl)) (dgs_cons (dg_name (i := 5) sc_count_changes.nd rfl (Or.inl rfl)) (dgs_cons (dg_name (i := 6) sc_count_changes.nd rfl (Or.inl rfl)) dgs_nil))))))
    (dss_cons (ds_par (i := 7) (j := 8) rfl sc_count_changes.nd rfl rfl (by decide) rfl rfl (da_cons (de_ix (dv 3) de_int) (da_cons (de_sub (de_callF h_count_lanes (C.room.mono (by decide)) C.gd C.px rfl (da_cons (dv 3) da_nil)) de_int) da_nil)))
    (dss_cons (ds_asg (de_fdiv (dv 1) (de_callFun (id := "math.gcd") (pe_callBfun cr_gcd rfl T.m_gcd (da_cons (dv 7) (da_cons (dv 1) da_nil))) cd_gcd)) (dg_name (i := 9) sc_count_changes.nd rfl (Or.inl rfl)))
    (dss_cons (ds_asg de_int (dg_name (i := 10) sc_count_changes.nd rfl (Or.inl rfl)))
    (dss_cons (ds_for ow rfl (di_rw1 rfl T.z_range (da_cons (de_callB (call_min2 rfl) cd_min2 rfl T.z_min (by decide +kernel) (da_cons (dv 9) (da_cons (dv 8) da_nil))) da_nil)) (dg_name (i := 11) sc_count_changes.nd rfl (Or.inl rfl)) (dss_cons (ds_asg (de_callF h_nth_lane (C.room.mono (by decide)) C.gd C.px rfl (da_cons (dv 3) (da_cons (dv 11) da_nil))) (dg_name (i := 12) sc_count_changes.nd rfl (Or.inl rfl)))
    (dss_one (ds_if (dt_cmp (op_eqA C.room.units) od_eqA (de_fdiv (dv 12) (dv 1)) (de_fdiv (de_add (dv 12) (dv 7)) (dv 1)) (nomark _)) (dss_cons (ds_asg (de_fdiv (de_sub (de_add (de_sub (dv 8) (dv 11)) (dv 9)) de_int) (dv 9)) (dg_name (i := 13) sc_count_changes.nd rfl (Or.inl rfl)))
    (dss_cons (ds_par (i := 14) (j := 15) rfl sc_count_changes.nd rfl rfl (by decide) rfl rfl (da_cons (de_add (de_mul (dv 4) (dv 12)) (dv 5)) (da_cons (de_mul (dv 4) (dv 7)) da_nil)))
    (dss_cons (ds_asg (de_callF h_sum_of_quotients (C.room.mono (by decide)) C.gd C.px rfl (da_cons (dv 13) (da_cons (dv 2) (da_cons (de_mul (dv 15) (dv 9)) (da_cons (dv 14) da_nil))))) (dg_name (i := 16) sc_count_changes.nd rfl (Or.inl rfl)))
    (dss_one (ds_aug (i := 10) sc_count_changes.nd rfl (Or.inl rfl) (de_callB call_abs cd_abs rfl T.z_abs (by decide +kernel) (da_cons (de_sub (de_callF h_sum_of_quotients (C.room.mono (by decide)) C.gd C.px rfl (da_cons (dv 13) (da_cons (dv 2) (da_cons (de_mul (dv 15) (dv 9)) (da_cons (de_add (dv 14) (dv 15)) da_nil))))) (dv 16)) da_nil)) ip_add))))) dss_nil))))
    (dss_one (ds_ret (dv 10)))))))))) ok_count_changes
theorem dh_count_changes {P : Program} {w : World} {K : PySem.W.Frag} {mg : Str → Option Value} {base : Heap} {A : Cls} {fI f : Addr} {fd : FuncData} (T : Glob w K mg A fI) (h_count_lanes : Fd P w K mg base "count_lanes" 3 ["guard"] (c_count_lanes A)) (h_nth_lane : Fd P w K mg base "nth_lane" 4 ["guard", "number"] (c_nth_lane A)) (h_sum_of_quotients : Fd P w K mg base "sum_of_quotients" 1 ["many", "divisor", "factor", "start"] (c_sum_of_quotients A)) (F : Fun K "count_changes" "count_changes" s_count_changes f fd) (hm : mg "count_changes" = some (.ref f)) : Fd P w K mg base "count_changes" 5 ["side", "wave", "size"] (c_count_changes A) := by
  exact ⟨_, _, (fd_count_changes T h_count_lanes h_nth_lane h_sum_of_quotients F), hm, F.kp, F.binds fun _ _ _ _ _ _ us hl => match us, hl with | [_, _, _], _ => rfl⟩
abbrev s_count_lines : Stmt := top 62
abbrev sc_N_count_lines : List Str := ["kernel", "access", "wave", "size", "side", "guard", "a", "_"]
theorem sc_count_lines : FnScope ["kernel", "access", "wave", "size", "side", "guard", "a", "_"] ["kernel", "access", "wave", "size"] (defScope s_count_lines) := ⟨rfl, rfl, rfl, by decide +kernel, rfl, by decide +kernel, by decide +kernel⟩
theorem fd_count_lines {P : Program} {w : World} {K : PySem.W.Frag} {mg : Str → Option Value} {base : Heap} {A : Cls} {fI f : Addr} {fd : FuncData} (T : Glob w K mg A fI) (h_check_size : Fd P w K mg base "check_size" 1 ["size"] (c_check_size A)) (h_check_wave : Fd P w K mg base "check_wave" 1 ["wave"] (c_check_wave A)) (h_count_changes : Fd P w K mg base "count_changes" 5 ["side", "wave", "size"] (c_count_changes A)) (h_count_lanes : Fd P w K mg base "count_lanes" 3 ["guard"] (c_count_lanes A)) (h_doing_at : Fd P w K mg base "doing_at" 3 ["kernel", "number"] (c_doing_at A)) (h_waves_with_lanes : Fd P w K mg base "waves_with_lanes" 5 ["guard", "wave"] (c_waves_with_lanes A)) (F : Fun K "count_lines" "count_lines" s_count_lines f fd) : FnG P w K mg base 6 f fd ["kernel", "access", "wave", "size"] (LSp K (c_count_lines A)) :=
  fnD_of (t := fun e => rd_count_lines A (c_check_size A) (c_check_wave A) (c_count_changes A) (c_count_lanes A) (c_doing_at A) (c_waves_with_lanes A) e) F sc_count_lines rfl len_count_lines (fun cdv A0 outer s H E O e C tk ow => ((dss_cons (ds_asg (de_fld T.k_Doing T.a_Doing_side (de_callF h_doing_at (C.room.mono (by decide)) C.gd C.px rfl (da_cons (dv 0) (da_cons (dv 1) da_nil)))) (dg_name (i := 4) sc_count_lines.nd rfl (Or.inl rfl)))
    (dss_cons (ds_expr (de_callF h_check_wave (C.room.mono (by decide)) C.gd C.px rfl (da_cons (dv 2) da_nil)))
    (dss_cons (ds_expr (de_callF h_check_size (C.room.mono (by decide)) C.gd C.px rfl (da_cons (dv 3) da_nil)))
    (dss_cons (ds_asg (dv 4) (dg_tup rfl (dgs_cons (dg_name (i := 5) sc_count_lines.nd rfl (Or.inl rfl)) (dgs_cons (dg_name (i := 6) sc_count_lines.nd rfl (Or.inl rfl)) (dgs_cons (dg_name (i := 7) sc_count_lines.nd rfl (Or.inl rfl)) (dgs_cons (dg_name (i := 7) sc_count_lines.nd rfl (Or.inl rfl)) dgs_nil))))))
    (dss_cons (ds_if (PW.pt (dw_or (dt_cmp op_ge od_ge (de_ix (dv 5) de_int) (dv 2) (nomark _)) (dw_or1 (dt_cmp op_ge od_ge (de_mul (de_callB call_abs cd_abs rfl T.z_abs (by decide +kernel) (da_cons (dv 6) da_nil)) (de_ix (dv 5) de_int)) (dv 3) (nomark _))))) (dss_one (ds_ret (de_callF h_count_lanes (C.room.mono (by decide)) C.gd C.px rfl (da_cons (dv 5) da_nil)))) dss_nil)
    (dss_one (ds_ret (de_add (de_callF h_waves_with_lanes (C.room.mono (by decide)) C.gd C.px rfl (da_cons (dv 5) (da_cons (dv 2) da_nil))) (de_callF h_count_changes (C.room.mono (by decide)) C.gd C.px rfl (da_cons (dv 4) (da_cons (dv 2) (da_cons (dv 3) da_nil)))))))))))))) ok_count_lines
theorem dh_count_lines {P : Program} {w : World} {K : PySem.W.Frag} {mg : Str → Option Value} {base : Heap} {A : Cls} {fI f : Addr} {fd : FuncData} (T : Glob w K mg A fI) (h_check_size : Fd P w K mg base "check_size" 1 ["size"] (c_check_size A)) (h_check_wave : Fd P w K mg base "check_wave" 1 ["wave"] (c_check_wave A)) (h_count_changes : Fd P w K mg base "count_changes" 5 ["side", "wave", "size"] (c_count_changes A)) (h_count_lanes : Fd P w K mg base "count_lanes" 3 ["guard"] (c_count_lanes A)) (h_doing_at : Fd P w K mg base "doing_at" 3 ["kernel", "number"] (c_doing_at A)) (h_waves_with_lanes : Fd P w K mg base "waves_with_lanes" 5 ["guard", "wave"] (c_waves_with_lanes A)) (F : Fun K "count_lines" "count_lines" s_count_lines f fd) (hm : mg "count_lines" = some (.ref f)) : Fd P w K mg base "count_lines" 6 ["kernel", "access", "wave", "size"] (c_count_lines A) := by
  exact ⟨_, _, (fd_count_lines T h_check_size h_check_wave h_count_changes h_count_lanes h_doing_at h_waves_with_lanes F), hm, F.kp, F.binds fun _ _ _ _ _ _ us hl => match us, hl with | [_, _, _, _], _ => rfl⟩
abbrev s__law_bag : Stmt := top 64
abbrev sc_N__law_bag : List Str := ["script", "blend", "great", "cell"]
theorem sc__law_bag : FnScope ["script", "blend", "great", "cell"] ["script"] (defScope s__law_bag) := ⟨rfl, rfl, rfl, by decide +kernel, rfl, by decide +kernel, by decide +kernel⟩
theorem fd__law_bag {P : Program} {w : World} {K : PySem.W.Frag} {mg : Str → Option Value} {base : Heap} {A : Cls} {fI f : Addr} {fd : FuncData} (T : Glob w K mg A fI) (F : Fun K "_law_bag" "_law_bag" s__law_bag f fd) : FnG P w K mg base 1 f fd ["script"] (LSp K (c__law_bag A)) :=
  fnD_of (t := fun e => rd__law_bag A e) F sc__law_bag rfl len__law_bag (fun cdv A0 outer s H E O e C tk ow => ((dss_cons (ds_par (i := 1) (j := 2) rfl sc__law_bag.nd rfl rfl (by decide) rfl rfl (da_cons de_int (da_cons (de_lstM da_nil) da_nil)))
    (dss_cons (ds_for ow rfl (di_sq (dv 0)) (dg_name (i := 3) sc__law_bag.nd rfl (Or.inl rfl)) (dss_cons (ds_asg (de_mod (de_add (de_mul (dv 1) de_int) (dv 3)) de_int) (dg_name (i := 1) sc__law_bag.nd rfl (Or.inl rfl)))
    (dss_one (ds_if (dt_cmp op_ge od_ge (de_callB call_abs cd_abs rfl T.z_abs (by decide +kernel) (da_cons (dv 3) da_nil)) (de_pow de_int de_int) (nomark _)) (dss_one (ds_expr (de_append (pe_bm PySem.F.plainAttrs_list PySem.F.slot_list_append PySem.F.type_list_append mt_append (dv 2) (pa_cons (de_callB call_abs cd_abs rfl T.z_abs (by decide +kernel) (da_cons (dv 3) da_nil)) pa_nil))))) dss_nil))))
    (dss_one (ds_ret (de_disp (dpp_cons (dv 2) (dpp_cons de_int (dpp_cons de_int (dpp_cons (dv 1) dpp_nil)))) (by decide) (by simp) (by decide)))))))) ok__law_bag
theorem dh__law_bag {P : Program} {w : World} {K : PySem.W.Frag} {mg : Str → Option Value} {base : Heap} {A : Cls} {fI f : Addr} {fd : FuncData} (T : Glob w K mg A fI) (F : Fun K "_law_bag" "_law_bag" s__law_bag f fd) (hm : mg "_law_bag" = some (.ref f)) : Fd P w K mg base "_law_bag" 1 ["script"] (c__law_bag A) := by
  exact ⟨_, _, (fd__law_bag T F), hm, F.kp, F.binds fun _ _ _ _ _ _ us hl => match us, hl with | [_], _ => rfl⟩
abbrev s__law_draw : Stmt := top 65
abbrev sc_N__law_draw : List Str := ["bag", "many", "drawn", "turn", "mixed"]
theorem sc__law_draw : FnScope ["bag", "many", "drawn", "turn", "mixed"] ["bag", "many"] (defScope s__law_draw) := ⟨rfl, rfl, rfl, by decide +kernel, rfl, by decide +kernel, by decide +kernel⟩
theorem fd__law_draw {P : Program} {w : World} {K : PySem.W.Frag} {mg : Str → Option Value} {base : Heap} {A : Cls} {fI f : Addr} {fd : FuncData} (T : Glob w K mg A fI) (F : Fun K "_law_draw" "_law_draw" s__law_draw f fd) : FnG P w K mg base 1 f fd ["bag", "many"] (LSp K (c__law_draw A)) :=
  fnD_of (t := fun e => rd__law_draw A e) F sc__law_draw rfl len__law_draw (fun cdv A0 outer s H E O e C tk ow => ((dss_cons (ds_if (PW.pt (dw_and (dt_cmp op_lt od_lt (de_dget C.u1 (dv 0) de_str) (dv 1) (nomark _)) (dw_and1 (dt_cmp op_gt od_gt (de_callB call_len cd_len rfl T.z_len PySem.boot_len (da_cons (de_dget C.u1 (dv 0) de_str) da_nil)) de_int (nomark _))))) (dss_one (ds_dput C.u1 (dv 0) de_str (de_pop0 (pe_bm PySem.F.plainAttrs_list PySem.F.slot_list_pop PySem.F.type_list_pop mt_popAt (de_dget C.u1 (dv 0) de_str) (pa_cons de_int pa_nil))))) dss_nil)
    (dss_cons (ds_if (dt_cmp op_ge od_ge (de_dget C.u1 (dv 0) de_str) (dv 1) (nomark _)) (dss_cons (ds_asg (de_mod (de_dget C.u1 (dv 0) de_str) (dv 1)) (dg_name (i := 2) sc__law_draw.nd rfl (Or.inl rfl)))
    (dss_cons (ds_dput C.u1 (dv 0) de_str (de_fdiv (de_dget C.u1 (dv 0) de_str) (dv 1)))
    (dss_one (ds_ret (dv 2))))) dss_nil)
    (dss_cons (ds_daug C.u1 (dv 0) de_str de_int)
    (dss_cons (ds_asg (de_dget C.u1 (dv 0) de_str) (dg_name (i := 3) sc__law_draw.nd rfl (Or.inl rfl)))
    (dss_cons (ds_asg (de_add (de_mul (de_add (de_dget C.u1 (dv 0) de_str) (de_mul de_int (dv 3))) (de_pow (de_add (dv 3) de_int) de_int)) (de_mul de_int (dv 3))) (dg_name (i := 4) sc__law_draw.nd rfl (Or.inl rfl)))
    (dss_one (ds_ret (de_mod (de_fdiv (de_mod (de_pow (de_mod (dv 4) de_int) de_int) (de_add (de_pow de_int de_int) de_int)) de_int) (dv 1))))))))))) ok__law_draw
theorem dh__law_draw {P : Program} {w : World} {K : PySem.W.Frag} {mg : Str → Option Value} {base : Heap} {A : Cls} {fI f : Addr} {fd : FuncData} (T : Glob w K mg A fI) (F : Fun K "_law_draw" "_law_draw" s__law_draw f fd) (hm : mg "_law_draw" = some (.ref f)) : Fd P w K mg base "_law_draw" 1 ["bag", "many"] (c__law_draw A) := by
  exact ⟨_, _, (fd__law_draw T F), hm, F.kp, F.binds fun _ _ _ _ _ _ us hl => match us, hl with | [_, _], _ => rfl⟩
abbrev s__law_in : Stmt := top 66
abbrev sc_N__law_in : List Str := ["span", "lane"]
theorem sc__law_in : FnScope ["span", "lane"] ["span", "lane"] (defScope s__law_in) := ⟨rfl, rfl, rfl, by decide +kernel, rfl, by decide +kernel, by decide +kernel⟩
theorem fd__law_in {P : Program} {w : World} {K : PySem.W.Frag} {mg : Str → Option Value} {base : Heap} {A : Cls} {fI f : Addr} {fd : FuncData} (T : Glob w K mg A fI) (F : Fun K "_law_in" "_law_in" s__law_in f fd) : FnG P w K mg base 1 f fd ["span", "lane"] (LSp K (c__law_in A)) :=
  fnD_of (t := fun e => rd__law_in A e) F sc__law_in rfl len__law_in (fun cdv A0 outer s H E O e C tk ow => ((dss_one (ds_ret (de_andT (de_chain op_leX op_lt od_leX od_lt (de_ix (dv 0) de_int) (dv 1) (de_ix (dv 0) de_int)) (de_one (de_cmp (op_eqA C.room.units) od_eqA (de_mod (dv 1) (de_ix (dv 0) de_int)) (de_ix (dv 0) de_int) (nomark _)))))))) ok__law_in
theorem dh__law_in {P : Program} {w : World} {K : PySem.W.Frag} {mg : Str → Option Value} {base : Heap} {A : Cls} {fI f : Addr} {fd : FuncData} (T : Glob w K mg A fI) (F : Fun K "_law_in" "_law_in" s__law_in f fd) (hm : mg "_law_in" = some (.ref f)) : Fd P w K mg base "_law_in" 1 ["span", "lane"] (c__law_in A) := by
  exact ⟨_, _, (fd__law_in T F), hm, F.kp, F.binds fun _ _ _ _ _ _ us hl => match us, hl with | [_, _], _ => rfl⟩
abbrev s__law_far_span : Stmt := top 67
abbrev sc_N__law_far_span : List Str := ["bag", "lanes", "low_now", "great", "stride"]
theorem sc__law_far_span : FnScope ["bag", "lanes", "low_now", "great", "stride"] ["bag", "lanes"] (defScope s__law_far_span) := ⟨rfl, rfl, rfl, by decide +kernel, rfl, by decide +kernel, by decide +kernel⟩
theorem fd__law_far_span {P : Program} {w : World} {K : PySem.W.Frag} {mg : Str → Option Value} {base : Heap} {A : Cls} {fI f : Addr} {fd : FuncData} (T : Glob w K mg A fI) (h__law_draw : Fd P w K mg base "_law_draw" 1 ["bag", "many"] (c__law_draw A)) (F : Fun K "_law_far_span" "_law_far_span" s__law_far_span f fd) : FnG P w K mg base 2 f fd ["bag", "lanes"] (LSp K (c__law_far_span A)) :=
  fnD_of (t := fun e => rd__law_far_span A (c__law_draw A) e) F sc__law_far_span rfl len__law_far_span (fun cdv A0 outer s H E O e C tk ow => ((dss_cons (ds_asg (de_ix (de_tup (da_cons de_int (da_cons (de_callF h__law_draw (C.room.mono (by decide)) C.gd C.px rfl (da_cons (dv 0) (da_cons (dv 1) da_nil))) da_nil))) (de_callF h__law_draw (C.room.mono (by decide)) C.gd C.px rfl (da_cons (dv 0) (da_cons de_int da_nil)))) (dg_name (i := 2) sc__law_far_span.nd rfl (Or.inl rfl)))
    (dss_cons (ds_asg (de_ix (de_tup (da_cons (de_pow de_int de_int) (da_cons (de_pow de_int de_int) da_nil))) (de_callF h__law_draw (C.room.mono (by decide)) C.gd C.px rfl (da_cons (dv 0) (da_cons de_int da_nil)))) (dg_name (i := 3) sc__law_far_span.nd rfl (Or.inl rfl)))
    (dss_cons (ds_asg (de_ix (de_tup (da_cons de_int (da_cons de_int (da_cons de_int (da_cons (de_add de_int (de_callF h__law_draw (C.room.mono (by decide)) C.gd C.px rfl (da_cons (dv 0) (da_cons de_int da_nil)))) (da_cons (de_add de_int (de_callF h__law_draw (C.room.mono (by decide)) C.gd C.px rfl (da_cons (dv 0) (da_cons (dv 3) da_nil)))) da_nil)))))) (de_callF h__law_draw (C.room.mono (by decide)) C.gd C.px rfl (da_cons (dv 0) (da_cons de_int da_nil)))) (dg_name (i := 4) sc__law_far_span.nd rfl (Or.inl rfl)))
    (dss_one (ds_ret (de_tup (da_cons (dv 2) (da_cons (de_add (dv 2) (de_callF h__law_draw (C.room.mono (by decide)) C.gd C.px rfl (da_cons (dv 0) (da_cons (de_add (de_sub (dv 1) (dv 2)) de_int) da_nil)))) (da_cons (dv 4) (da_cons (de_callF h__law_draw (C.room.mono (by decide)) C.gd C.px rfl (da_cons (dv 0) (da_cons (dv 4) da_nil))) da_nil)))))))))))) ok__law_far_span
theorem dh__law_far_span {P : Program} {w : World} {K : PySem.W.Frag} {mg : Str → Option Value} {base : Heap} {A : Cls} {fI f : Addr} {fd : FuncData} (T : Glob w K mg A fI) (h__law_draw : Fd P w K mg base "_law_draw" 1 ["bag", "many"] (c__law_draw A)) (F : Fun K "_law_far_span" "_law_far_span" s__law_far_span f fd) (hm : mg "_law_far_span" = some (.ref f)) : Fd P w K mg base "_law_far_span" 2 ["bag", "lanes"] (c__law_far_span A) := by
  exact ⟨_, _, (fd__law_far_span T h__law_draw F), hm, F.kp, F.binds fun _ _ _ _ _ _ us hl => match us, hl with | [_, _], _ => rfl⟩
abbrev s__law_wave_right : Stmt := top 68
abbrev sc_N__law_wave_right : List Str := ["made", "line", "band", "size", "banks", "number", "every", "cells", "places", "told", "lane", "cell", "place"]
theorem sc__law_wave_right : FnScope ["made", "line", "band", "size", "banks", "number", "every", "cells", "places", "told", "lane", "cell", "place"] ["made", "line", "band", "size", "banks", "number"] (defScope s__law_wave_right) := ⟨rfl, rfl, rfl, by decide +kernel, rfl, by decide +kernel, by decide +kernel⟩
theorem fd__law_wave_right {P : Program} {w : World} {K : PySem.W.Frag} {mg : Str → Option Value} {base : Heap} {A : Cls} {fI f : Addr} {fd : FuncData} (T : Glob w K mg A fI) (h__law_in : Fd P w K mg base "_law_in" 1 ["span", "lane"] (c__law_in A)) (h_degree_of_wave : Fd P w K mg base "degree_of_wave" 4 ["kernel", "access", "wave", "banks", "number"] (c_degree_of_wave A)) (h_greatest_degree : Fd P w K mg base "greatest_degree" 6 ["kernel", "access", "wave", "banks"] (c_greatest_degree A)) (h_lanes_in_wave : Fd P w K mg base "lanes_in_wave" 4 ["kernel", "statement", "wave", "number"] (c_lanes_in_wave A)) (h_lines_of_wave : Fd P w K mg base "lines_of_wave" 5 ["kernel", "access", "wave", "size", "number"] (c_lines_of_wave A)) (hq_Kernel_lanes : Pp P w K mg base A.Kernel "lanes" 1 ["self"] (c_Kernel_lanes A)) (F : Fun K "_law_wave_right" "_law_wave_right" s__law_wave_right f fd) : FnG P w K mg base 7 f fd ["made", "line", "band", "size", "banks", "number"] (LSp K (c__law_wave_right A)) :=
  fnD_of (t := fun e => rd__law_wave_right A (c_Kernel_lanes A) (c__law_in A) (c_degree_of_wave A) (c_greatest_degree A) (c_lanes_in_wave A) (c_lines_of_wave A) e) F sc__law_wave_right rfl len__law_wave_right (fun cdv A0 outer s H E O e C tk ow => ((dss_cons (ds_asg (de_listRw2 rfl rfl T.z_list rfl T.z_range (de_mul (dv 5) (dv 2)) (de_callB (call_min2 rfl) cd_min2 rfl T.z_min (by decide +kernel) (da_cons (de_propP T.k_Kernel hq_Kernel_lanes (C.room.mono (by decide)) C.gd (dv 0)) (da_cons (de_mul (de_add (dv 5) de_int) (dv 2)) da_nil)))) (dg_name (i := 6) sc__law_wave_right.nd rfl (Or.inl rfl)))
    (dss_cons (ds_setLc (i := 7) rfl sc__law_wave_right.nd rfl rfl (sw_true rfl rfl rfl (by decide +kernel)) (di_sq (dv 6)) (blkOk_by (show blkC sc_N__law_wave_right (defScope s__law_wave_right) _ [("lane", 10)] = true from by decide +kernel)) (by decide) (fun _ _ _ _ _ => (dg_name (i := 10) sc__law_wave_right.nd rfl (Or.inl rfl))) (fun _ _ _ _ _ => (dts_one (dt_truth (de_callF h__law_in (C.room.mono (by decide)) C.gd passesN rfl (da_cons (de_ix (dv 1) de_int) (da_cons (dv 10) da_nil)))))) (fun _ _ _ _ _ => (de_add (de_mul (de_ix (dv 1) de_int) (dv 10)) (de_ix (dv 1) de_int))) (own := [("lane", 10)]))
    (dss_cons (ds_asg (de_lc rfl sc__law_wave_right.nd (di_sq (de_sortSet rfl T.z_sorted (by decide +kernel) rfl T.z_set (by decide +kernel) (dv 7))) (blkOk_by (show blkC sc_N__law_wave_right (defScope s__law_wave_right) _ [("cell", 11)] = true from by decide +kernel)) (by decide) (fun _ _ _ _ _ => (dg_name (i := 11) sc__law_wave_right.nd rfl (Or.inl rfl))) (fun _ _ _ _ _ => dts_nil) (fun _ _ _ _ _ => (de_mod (dv 11) (dv 4))) (own := [("cell", 11)])) (dg_name (i := 8) sc__law_wave_right.nd rfl (Or.inr rfl)))
    (dss_cons (ds_if (dt_cmp (op_neA C.room.units) od_neA (de_callF h_lanes_in_wave (C.room.mono (by decide)) C.gd C.px rfl (da_cons (dv 0) (da_cons de_int (da_cons (dv 2) (da_cons (dv 5) da_nil))))) (de_callB call_len cd_len rfl T.z_len PySem.boot_len (da_cons (dv 7) da_nil)) (nomark _)) (dss_one (ds_ret de_bl)) dss_nil)
    (dss_cons (ds_if (dt_cmp (op_neA C.room.units) od_neA (de_callF h_lines_of_wave (C.room.mono (by decide)) C.gd C.px rfl (da_cons (dv 0) (da_cons de_int (da_cons (dv 2) (da_cons (dv 3) (da_cons (dv 5) da_nil)))))) (de_lenSet rfl T.z_len rfl T.z_set (de_lc rfl sc__law_wave_right.nd (di_sq (dv 7)) (blkOk_by (show blkC sc_N__law_wave_right (defScope s__law_wave_right) _ [("cell", 11)] = true from by decide +kernel)) (by decide) (fun _ _ _ _ _ => (dg_name (i := 11) sc__law_wave_right.nd rfl (Or.inl rfl))) (fun _ _ _ _ _ => dts_nil) (fun _ _ _ _ _ => (de_fdiv (dv 11) (dv 3))) (own := [("cell", 11)]))) (nomark _)) (dss_one (ds_ret de_bl)) dss_nil)
    (dss_cons (ds_asg (de_callF h_degree_of_wave (C.room.mono (by decide)) C.gd C.px rfl (da_cons (dv 0) (da_cons de_int (da_cons (dv 2) (da_cons (dv 4) (da_cons (dv 5) da_nil)))))) (dg_name (i := 9) sc__law_wave_right.nd rfl (Or.inl rfl)))
    (dss_cons (ds_if (dt_cmp op_gt od_gt (dv 9) (de_callF h_greatest_degree (C.room.mono (by decide)) C.gd C.px rfl (da_cons (dv 0) (da_cons de_int (da_cons (dv 2) (da_cons (dv 4) da_nil))))) (nomark _)) (dss_one (ds_ret de_bl)) dss_nil)
    (dss_one (ds_ret (de_cmp (op_eqA C.room.units) od_eqA (dv 9) (de_callB (cr_max rfl) cd_maxL rfl T.z_max (by decide +kernel) (da_cons (de_add (de_lst (da_cons de_int da_nil)) (de_lc rfl sc__law_wave_right.nd (di_sq (dv 8)) (blkOk_by (show blkC sc_N__law_wave_right (defScope s__law_wave_right) _ [("place", 12)] = true from by decide +kernel)) (by decide) (fun _ _ _ _ _ => (dg_name (i := 12) sc__law_wave_right.nd rfl (Or.inl rfl))) (fun _ _ _ _ _ => dts_nil) (fun _ _ _ _ _ => (de_count (pe_bm PySem.F.plainAttrs_list PySem.F.slot_list_count PySem.F.type_list_count mt_lcount (dv 8) (pa_cons (dv 12) pa_nil)))) (own := [("place", 12)]))) da_nil)) (nomark _))))))))))))) ok__law_wave_right
theorem dh__law_wave_right {P : Program} {w : World} {K : PySem.W.Frag} {mg : Str → Option Value} {base : Heap} {A : Cls} {fI f : Addr} {fd : FuncData} (T : Glob w K mg A fI) (h__law_in : Fd P w K mg base "_law_in" 1 ["span", "lane"] (c__law_in A)) (h_degree_of_wave : Fd P w K mg base "degree_of_wave" 4 ["kernel", "access", "wave", "banks", "number"] (c_degree_of_wave A)) (h_greatest_degree : Fd P w K mg base "greatest_degree" 6 ["kernel", "access", "wave", "banks"] (c_greatest_degree A)) (h_lanes_in_wave : Fd P w K mg base "lanes_in_wave" 4 ["kernel", "statement", "wave", "number"] (c_lanes_in_wave A)) (h_lines_of_wave : Fd P w K mg base "lines_of_wave" 5 ["kernel", "access", "wave", "size", "number"] (c_lines_of_wave A)) (hq_Kernel_lanes : Pp P w K mg base A.Kernel "lanes" 1 ["self"] (c_Kernel_lanes A)) (F : Fun K "_law_wave_right" "_law_wave_right" s__law_wave_right f fd) (hm : mg "_law_wave_right" = some (.ref f)) : Fd P w K mg base "_law_wave_right" 7 ["made", "line", "band", "size", "banks", "number"] (c__law_wave_right A) := by
  exact ⟨_, _, (fd__law_wave_right T h__law_in h_degree_of_wave h_greatest_degree h_lanes_in_wave h_lines_of_wave hq_Kernel_lanes F), hm, F.kp, F.binds fun _ _ _ _ _ _ us hl => match us, hl with | [_, _, _, _, _, _], _ => rfl⟩
abbrev s__law_sums : Stmt := top 69
abbrev sc_N__law_sums : List Str := ["made", "band", "size", "banks", "found"]
theorem sc__law_sums : FnScope ["made", "band", "size", "banks", "found"] ["made", "band", "size", "banks"] (defScope s__law_sums) := ⟨rfl, rfl, rfl, by decide +kernel, rfl, by decide +kernel, by decide +kernel⟩
theorem fd__law_sums {P : Program} {w : World} {K : PySem.W.Frag} {mg : Str → Option Value} {base : Heap} {A : Cls} {fI f : Addr} {fd : FuncData} (T : Glob w K mg A fI) (h_count_lines : Fd P w K mg base "count_lines" 6 ["kernel", "access", "wave", "size"] (c_count_lines A)) (h_count_waves : Fd P w K mg base "count_waves" 6 ["kernel", "statement", "wave"] (c_count_waves A)) (h_full_waves : Fd P w K mg base "full_waves" 4 ["kernel", "statement", "wave"] (c_full_waves A)) (h_total_degree : Fd P w K mg base "total_degree" 6 ["kernel", "access", "wave", "banks"] (c_total_degree A)) (F : Fun K "_law_sums" "_law_sums" s__law_sums f fd) : FnG P w K mg base 7 f fd ["made", "band", "size", "banks"] (LSp K (c__law_sums A)) :=
  fnD_of (t := fun e => rd__law_sums A (c_count_lines A) (c_count_waves A) (c_full_waves A) (c_total_degree A) e) F sc__law_sums rfl len__law_sums (fun cdv A0 outer s H E O e C tk ow => ((dss_cons (ds_asg (de_lst (da_cons (de_callF h_count_lines (C.room.mono (by decide)) C.gd C.px rfl (da_cons (dv 0) (da_cons de_int (da_cons (dv 1) (da_cons (dv 2) da_nil))))) (da_cons (de_callF h_total_degree (C.room.mono (by decide)) C.gd C.px rfl (da_cons (dv 0) (da_cons de_int (da_cons (dv 1) (da_cons (dv 3) da_nil))))) da_nil))) (dg_name (i := 4) sc__law_sums.nd rfl (Or.inl rfl)))
    (dss_one (ds_ret (de_add (dv 4) (de_lst (da_cons (de_callF h_count_waves (C.room.mono (by decide)) C.gd C.px rfl (da_cons (dv 0) (da_cons de_int (da_cons (dv 1) da_nil)))) (da_cons (de_callF h_full_waves (C.room.mono (by decide)) C.gd C.px rfl (da_cons (dv 0) (da_cons de_int (da_cons (dv 1) da_nil)))) da_nil))))))))) ok__law_sums
theorem dh__law_sums {P : Program} {w : World} {K : PySem.W.Frag} {mg : Str → Option Value} {base : Heap} {A : Cls} {fI f : Addr} {fd : FuncData} (T : Glob w K mg A fI) (h_count_lines : Fd P w K mg base "count_lines" 6 ["kernel", "access", "wave", "size"] (c_count_lines A)) (h_count_waves : Fd P w K mg base "count_waves" 6 ["kernel", "statement", "wave"] (c_count_waves A)) (h_full_waves : Fd P w K mg base "full_waves" 4 ["kernel", "statement", "wave"] (c_full_waves A)) (h_total_degree : Fd P w K mg base "total_degree" 6 ["kernel", "access", "wave", "banks"] (c_total_degree A)) (F : Fun K "_law_sums" "_law_sums" s__law_sums f fd) (hm : mg "_law_sums" = some (.ref f)) : Fd P w K mg base "_law_sums" 7 ["made", "band", "size", "banks"] (c__law_sums A) := by
  exact ⟨_, _, (fd__law_sums T h_count_lines h_count_waves h_full_waves h_total_degree F), hm, F.kp, F.binds fun _ _ _ _ _ _ us hl => match us, hl with | [_, _, _, _], _ => rfl⟩
abbrev s_law : Stmt := top 70
abbrev sc_N_law : List Str := ["script", "bag", "turn", "lanes", "band", "banks", "size", "a", "b", "span", "line", "made", "waves_now", "number", "middle", "parts", "both", "one", "two"]
theorem sc_law : FnScope ["script", "bag", "turn", "lanes", "band", "banks", "size", "a", "b", "span", "line", "made", "waves_now", "number", "middle", "parts", "both", "one", "two"] ["script"] (defScope s_law) := ⟨rfl, rfl, rfl, by decide +kernel, rfl, by decide +kernel, by decide +kernel⟩
theorem fd_lawG {P : Program} {w : World} {K : PySem.W.Frag} {mg : Str → Option Value} {base : Heap} {A : Cls} {fI f : Addr} {fd : FuncData} (T : Glob w K mg A fI) (h__law_bag : Fd P w K mg base "_law_bag" 1 ["script"] (c__law_bag A)) (h__law_draw : Fd P w K mg base "_law_draw" 1 ["bag", "many"] (c__law_draw A)) (h__law_far_span : Fd P w K mg base "_law_far_span" 2 ["bag", "lanes"] (c__law_far_span A)) (h__law_sums : Fd P w K mg base "_law_sums" 7 ["made", "band", "size", "banks"] (c__law_sums A)) (h__law_wave_right : Fd P w K mg base "_law_wave_right" 7 ["made", "line", "band", "size", "banks", "number"] (c__law_wave_right A)) (h_count_lanes : Fd P w K mg base "count_lanes" 3 ["guard"] (c_count_lanes A)) (h_count_lines : Fd P w K mg base "count_lines" 6 ["kernel", "access", "wave", "size"] (c_count_lines A)) (hi_Kernel_1 : Im P w K mg base "Kernel" A.Kernel 4 ["self", "lanes", "statements", "barriers"] (c_Kernel___init__ A) [.tup []]) (F : Fun K "law" "law" s_law f fd) : FnG P w K mg base 8 f fd ["script"] (LSp K (c_law A)) :=
  fnD_of (t := fun e => rd_law A (c_Kernel___init__ A) (c__law_bag A) (c__law_draw A) (c__law_far_span A) (c__law_sums A) (c__law_wave_right A) (c_count_lanes A) (c_count_lines A) e) F sc_law rfl len_law (fun cdv A0 outer s H E O e C tk ow => ((dss_cons (ds_asg (de_callF h__law_bag (C.room.mono (by decide)) C.gd C.px rfl (da_cons (dv 0) da_nil)) (dg_name (i := 1) sc_law.nd rfl (Or.inl rfl)))
    (dss_cons (ds_for ow rfl (di_rw1 rfl T.z_range (da_cons (de_add de_int (de_callB (call_min2 rfl) cd_min2 rfl T.z_min (by decide +kernel) (da_cons de_int (da_cons (de_callB call_len cd_len rfl T.z_len PySem.boot_len (da_cons (dv 0) da_nil)) da_nil)))) da_nil)) (dg_name (i := 2) sc_law.nd rfl (Or.inl rfl)) (dss_cons (ds_asg (de_ix (de_tup (da_cons de_int (da_cons (de_add (de_pow de_int de_int) (de_callF h__law_draw (C.room.mono (by decide)) C.gd C.px rfl (da_cons (dv 1) (da_cons de_int da_nil)))) (da_cons (de_sub (de_pow de_int de_int) (de_callF h__law_draw (C.room.mono (by decide)) C.gd C.px rfl (da_cons (dv 1) (da_cons de_int da_nil)))) da_nil)))) (de_callF h__law_draw (C.room.mono (by decide)) C.gd C.px rfl (da_cons (dv 1) (da_cons de_int da_nil)))) (dg_name (i := 3) sc_law.nd rfl (Or.inl rfl)))
    (dss_cons (ds_asg (de_tup (da_cons (de_add de_int (de_callF h__law_draw (C.room.mono (by decide)) C.gd C.px rfl (da_cons (dv 1) (da_cons de_int da_nil)))) (da_cons (de_add de_int (de_callF h__law_draw (C.room.mono (by decide)) C.gd C.px rfl (da_cons (dv 1) (da_cons de_int da_nil)))) da_nil))) (dg_tup rfl (dgs_cons (dg_name (i := 4) sc_law.nd rfl (Or.inr rfl)) (dgs_cons (dg_name (i := 5) sc_law.nd rfl (Or.inr rfl)) dgs_nil))))
    (dss_cons (ds_asg (de_ix (de_tup (da_cons (de_add de_int (de_callF h__law_draw (C.room.mono (by decide)) C.gd C.px rfl (da_cons (dv 1) (da_cons de_int da_nil)))) (da_cons (de_add de_int (de_callF h__law_draw (C.room.mono (by decide)) C.gd C.px rfl (da_cons (dv 1) (da_cons (de_pow de_int de_int) da_nil)))) da_nil))) (de_callF h__law_draw (C.room.mono (by decide)) C.gd C.px rfl (da_cons (dv 1) (da_cons de_int da_nil)))) (dg_name (i := 6) sc_law.nd rfl (Or.inr rfl)))
    (dss_cons (ds_par (i := 7) (j := 8) rfl sc_law.nd rfl rfl (by decide) rfl rfl (da_cons (de_sub (de_callF h__law_draw (C.room.mono (by decide)) C.gd C.px rfl (da_cons (dv 1) (da_cons de_int da_nil))) de_int) (da_cons (de_callF h__law_draw (C.room.mono (by decide)) C.gd C.px rfl (da_cons (dv 1) (da_cons (de_pow de_int de_int) da_nil))) da_nil)))
    (dss_cons (ds_if (dt_cmp (op_eqA C.room.units) od_eqA (de_callF h__law_draw (C.room.mono (by decide)) C.gd C.px rfl (da_cons (dv 1) (da_cons de_int da_nil))) de_int (nomark _)) (dss_one (ds_asg (de_sub (de_callF h__law_draw (C.room.mono (by decide)) C.gd C.px rfl (da_cons (dv 1) (da_cons (de_pow de_int de_int) da_nil))) (de_pow de_int de_int)) (dg_name (i := 7) sc_law.nd rfl (Or.inl rfl)))) dss_nil)
    (dss_cons (ds_asg (de_callF h__law_far_span (C.room.mono (by decide)) C.gd C.px rfl (da_cons (dv 1) (da_cons (dv 3) da_nil))) (dg_name (i := 9) sc_law.nd rfl (Or.inl rfl)))
    (dss_cons (ds_asg (de_tup (da_cons de_str (da_cons (dv 9) (da_cons de_str (da_cons (dv 7) (da_cons (dv 8) (da_cons de_int (da_cons de_int da_nil)))))))) (dg_name (i := 10) sc_law.nd rfl (Or.inl rfl)))
    (dss_cons (ds_asg (de_makeI (x := "Kernel") hi_Kernel_1 (C.room.mono (by decide)) C.gd C.px rfl (da_cons (dv 3) (da_cons (de_lst (da_cons (dv 10) da_nil)) da_nil))) (dg_name (i := 11) sc_law.nd rfl (Or.inl rfl)))
    (dss_cons (ds_asg (de_fdiv (de_sub (de_add (dv 3) (dv 4)) de_int) (dv 4)) (dg_name (i := 12) sc_law.nd rfl (Or.inl rfl)))
    (dss_cons (ds_for ow rfl (di_sq (de_tup (da_cons de_int (da_cons (de_sub (dv 12) de_int) (da_cons (de_callB (call_min2 rfl) cd_min2 rfl T.z_min (by decide +kernel) (da_cons (de_sub (dv 12) de_int) (da_cons (de_fdiv (de_ix (dv 9) de_int) (dv 4)) da_nil))) (da_cons (de_callF h__law_draw (C.room.mono (by decide)) C.gd C.px rfl (da_cons (dv 1) (da_cons (dv 12) da_nil))) da_nil)))))) (dg_name (i := 13) sc_law.nd rfl (Or.inl rfl)) (dss_one (ds_if (dt_not (dt_truth (de_callF h__law_wave_right (C.room.mono (by decide)) C.gd C.px rfl (da_cons (dv 11) (da_cons (dv 10) (da_cons (dv 4) (da_cons (dv 6) (da_cons (dv 5) (da_cons (dv 13) da_nil))))))))) (dss_one (ds_ret de_bl)) dss_nil)))
    (dss_cons (ds_if (dt_cmp op_gt od_gt (de_callF h_count_lines (C.room.mono (by decide)) C.gd C.px rfl (da_cons (dv 11) (da_cons de_int (da_cons (dv 4) (da_cons (dv 6) da_nil))))) (de_callF h_count_lanes (C.room.mono (by decide)) C.gd C.px rfl (da_cons (dv 9) da_nil)) (nomark _)) (dss_one (ds_ret de_bl)) dss_nil)
    (dss_cons (ds_asg (de_callB (call_min2 rfl) cd_min2 rfl T.z_min (by decide +kernel) (da_cons (de_callB (call_max2 rfl) cd_max2 rfl T.z_max (by decide +kernel) (da_cons (de_mul (dv 4) (de_callF h__law_draw (C.room.mono (by decide)) C.gd C.px rfl (da_cons (dv 1) (da_cons (dv 12) da_nil)))) (da_cons (de_ix (dv 9) de_int) da_nil))) (da_cons (de_ix (dv 9) de_int) da_nil))) (dg_name (i := 14) sc_law.nd rfl (Or.inl rfl)))
    (dss_cons (ds_asg (de_callB (call_min2 rfl) cd_min2 rfl T.z_min (by decide +kernel) (da_cons (de_ix (dv 9) de_int) (da_cons (de_add (dv 14) (de_mod (de_sub de_int (dv 14)) (dv 4))) da_nil))) (dg_name (i := 14) sc_law.nd rfl (Or.inl rfl)))
    (dss_cons (ds_asg (de_lstM (da_cons (de_makeI (x := "Kernel") hi_Kernel_1 (C.room.mono (by decide)) C.gd C.px rfl (da_cons (dv 3) (da_cons (de_lst (da_cons (de_tup (da_cons de_str (da_cons (de_add (de_tup (da_cons (de_ix (dv 9) de_int) (da_cons (dv 14) da_nil))) (de_sl (dv 9) (do_some de_int) do_none)) (da_cons de_str (da_cons (dv 7) (da_cons (dv 8) (da_cons de_int (da_cons de_int da_nil)))))))) da_nil)) da_nil))) da_nil)) (dg_name (i := 15) sc_law.nd rfl (Or.inl rfl)))
    (dss_cons (ds_expr (de_append (pe_bm PySem.F.plainAttrs_list PySem.F.slot_list_append PySem.F.type_list_append mt_append (dv 15) (pa_cons (de_makeI (x := "Kernel") hi_Kernel_1 (C.room.mono (by decide)) C.gd C.px rfl (da_cons (dv 3) (da_cons (de_lst (da_cons (de_tup (da_cons de_str (da_cons (de_add (de_tup (da_cons (dv 14) (da_cons (de_ix (dv 9) de_int) da_nil))) (de_sl (dv 9) (do_some de_int) do_none)) (da_cons de_str (da_cons (dv 7) (da_cons (dv 8) (da_cons de_int (da_cons de_int da_nil)))))))) da_nil)) da_nil))) pa_nil))))
    (dss_cons (ds_setLc (i := 16) rfl sc_law.nd rfl rfl (sw_true rfl rfl rfl (by decide +kernel)) (di_sq (dv 15)) (blkOk_by (show blkC sc_N_law (defScope s_law) _ [("one", 17)] = true from by decide +kernel)) (by decide) (fun _ _ _ _ _ => (dg_name (i := 17) sc_law.nd rfl (Or.inl rfl))) (fun _ _ _ _ _ => dts_nil) (fun _ _ _ _ _ => (de_callF h__law_sums (C.room.mono (by decide)) C.gd passesN rfl (da_cons (dv 17) (da_cons (dv 4) (da_cons (dv 6) (da_cons (dv 5) da_nil)))))) (own := [("one", 17)]))
    (dss_one (ds_if (dt_cmp (op_neA C.room.units) od_neA (de_lc rfl sc_law.nd (di_zip rfl T.z_zip (da_cons (de_ix (dv 16) de_int) (da_cons (de_ix (dv 16) de_int) da_nil))) (blkOk_by (show blkC sc_N_law (defScope s_law) _ [("one", 17), ("two", 18)] = true from by decide +kernel)) (by decide) (fun _ _ _ _ _ => (dg_tup rfl (dgs_cons (dg_name (i := 17) sc_law.nd rfl (Or.inl rfl)) (dgs_cons (dg_name (i := 18) sc_law.nd rfl (Or.inl rfl)) dgs_nil)))) (fun _ _ _ _ _ => dts_nil) (fun _ _ _ _ _ => (de_add (dv 17) (dv 18))) (own := [("one", 17), ("two", 18)])) (de_callF h__law_sums (C.room.mono (by decide)) C.gd C.px rfl (da_cons (dv 11) (da_cons (dv 4) (da_cons (dv 6) (da_cons (dv 5) da_nil))))) (nomark _)) (dss_one (ds_ret de_bl)) dss_nil)))))))))))))))))))
    (dss_one (ds_ret de_bl)))))) ok_law
theorem all_mk {l : PySem.W.OpenLaw} {w : World} {K : PySem.W.Frag} {h : Heap} {mg : Str → Option Value} {fa : Addr} (X : K.In h) (G : h.Ns mainGlobals mg) (hfa : mg "law" = some (.ref fa))
    {C_Doing : Addr} (x0_Doing : PySem.W.nsIn K mainGlobals "Doing" = some (some (.ref C_Doing)))
    (xg_Doing : PySem.W.plainGet K C_Doing Str.empty = true)
    (xh_Doing : PySem.W.hasDictIn K C_Doing = true)
    (xp_Doing : PySem.W.plainOver K C_Doing = true)
    (xs_Doing : PySem.W.findIn K (.ref C_Doing) "__setattr__" = some (some (.builtin "object.__setattr__")))
    (xm_Doing : PySem.W.makesIn K C_Doing = true)
    (xk_Doing : PySem.W.keepIn K (.ref C_Doing) = true)
    {C_Kernel : Addr} (x0_Kernel : PySem.W.nsIn K mainGlobals "Kernel" = some (some (.ref C_Kernel)))
    (xg_Kernel : PySem.W.plainGet K C_Kernel Str.empty = true)
    (xh_Kernel : PySem.W.hasDictIn K C_Kernel = true)
    (xp_Kernel : PySem.W.plainOver K C_Kernel = true)
    (xs_Kernel : PySem.W.findIn K (.ref C_Kernel) "__setattr__" = some (some (.builtin "object.__setattr__")))
    (xm_Kernel : PySem.W.makesIn K C_Kernel = true)
    (xk_Kernel : PySem.W.keepIn K (.ref C_Kernel) = true)
    (xf_Doing_array : PySem.W.findIn K (.ref C_Doing) "array" = some none)
    (xf_Doing_number : PySem.W.findIn K (.ref C_Doing) "number" = some none)
    (xf_Doing_phase : PySem.W.findIn K (.ref C_Doing) "phase" = some none)
    (xf_Doing_side : PySem.W.findIn K (.ref C_Doing) "side" = some none)
    (xf_Doing_writes : PySem.W.findIn K (.ref C_Doing) "writes" = some none)
    (xf_Kernel__barriers : PySem.W.findIn K (.ref C_Kernel) "_barriers" = some none)
    (xf_Kernel__lanes : PySem.W.findIn K (.ref C_Kernel) "_lanes" = some none)
    (xf_Kernel__racing : PySem.W.findIn K (.ref C_Kernel) "_racing" = some none)
    (xf_Kernel__statements : PySem.W.findIn K (.ref C_Kernel) "_statements" = some none)
    {f0 : Addr} {od0 an0 : Option Addr} {sl0 : Array (Option Value)} {oc0 kV0 dc0 pm0 cd0 ct0 : Value} (a0 : PySem.W.nsIn K mainGlobals "is_guard" = some (some (.ref f0)))
    (l0 : K.lookup f0 = some ⟨oc0, od0, .func (PySem.W.fnOf "is_guard" "is_guard" (defArgs s_is_guard) (defBody s_is_guard) (defScope s_is_guard) .none kV0 dc0 pm0 an0 cd0 ct0), sl0⟩)
    (c0 : PySem.W.codeIn K cd0 "is_guard" = true)
    (k0 : PySem.W.keepIn K (.ref f0) = true)
    {f1 : Addr} {od1 an1 : Option Addr} {sl1 : Array (Option Value)} {oc1 kV1 dc1 pm1 cd1 ct1 : Value} (a1 : PySem.W.nsIn K mainGlobals "check_guard" = some (some (.ref f1)))
    (l1 : K.lookup f1 = some ⟨oc1, od1, .func (PySem.W.fnOf "check_guard" "check_guard" (defArgs s_check_guard) (defBody s_check_guard) (defScope s_check_guard) .none kV1 dc1 pm1 an1 cd1 ct1), sl1⟩)
    (c1 : PySem.W.codeIn K cd1 "check_guard" = true)
    (k1 : PySem.W.keepIn K (.ref f1) = true)
    {f2 : Addr} {od2 an2 : Option Addr} {sl2 : Array (Option Value)} {oc2 kV2 dc2 pm2 cd2 ct2 : Value} (a2 : PySem.W.nsIn K mainGlobals "first_from" = some (some (.ref f2)))
    (l2 : K.lookup f2 = some ⟨oc2, od2, .func (PySem.W.fnOf "first_from" "first_from" (defArgs s_first_from) (defBody s_first_from) (defScope s_first_from) .none kV2 dc2 pm2 an2 cd2 ct2), sl2⟩)
    (c2 : PySem.W.codeIn K cd2 "first_from" = true)
    (k2 : PySem.W.keepIn K (.ref f2) = true)
    {f3 : Addr} {od3 an3 : Option Addr} {sl3 : Array (Option Value)} {oc3 kV3 dc3 pm3 cd3 ct3 : Value} (a3 : PySem.W.nsIn K mainGlobals "count_lanes" = some (some (.ref f3)))
    (l3 : K.lookup f3 = some ⟨oc3, od3, .func (PySem.W.fnOf "count_lanes" "count_lanes" (defArgs s_count_lanes) (defBody s_count_lanes) (defScope s_count_lanes) .none kV3 dc3 pm3 an3 cd3 ct3), sl3⟩)
    (c3 : PySem.W.codeIn K cd3 "count_lanes" = true)
    (k3 : PySem.W.keepIn K (.ref f3) = true)
    {f4 : Addr} {od4 an4 : Option Addr} {sl4 : Array (Option Value)} {oc4 kV4 dc4 pm4 cd4 ct4 : Value} (a4 : PySem.W.nsIn K mainGlobals "nth_lane" = some (some (.ref f4)))
    (l4 : K.lookup f4 = some ⟨oc4, od4, .func (PySem.W.fnOf "nth_lane" "nth_lane" (defArgs s_nth_lane) (defBody s_nth_lane) (defScope s_nth_lane) .none kV4 dc4 pm4 an4 cd4 ct4), sl4⟩)
    (c4 : PySem.W.codeIn K cd4 "nth_lane" = true)
    (k4 : PySem.W.keepIn K (.ref f4) = true)
    {f5 : Addr} {od5 an5 : Option Addr} {sl5 : Array (Option Value)} {oc5 kV5 dc5 pm5 cd5 ct5 : Value} (a5 : PySem.W.nsIn K mainGlobals "has_lane" = some (some (.ref f5)))
    (l5 : K.lookup f5 = some ⟨oc5, od5, .func (PySem.W.fnOf "has_lane" "has_lane" (defArgs s_has_lane) (defBody s_has_lane) (defScope s_has_lane) .none kV5 dc5 pm5 an5 cd5 ct5), sl5⟩)
    (c5 : PySem.W.codeIn K cd5 "has_lane" = true)
    (k5 : PySem.W.keepIn K (.ref f5) = true)
    {f6 : Addr} {od6 an6 : Option Addr} {sl6 : Array (Option Value)} {oc6 kV6 dc6 pm6 cd6 ct6 : Value} (a6 : PySem.W.nsIn K mainGlobals "cut" = some (some (.ref f6)))
    (l6 : K.lookup f6 = some ⟨oc6, od6, .func (PySem.W.fnOf "cut" "cut" (defArgs s_cut) (defBody s_cut) (defScope s_cut) .none kV6 dc6 pm6 an6 cd6 ct6), sl6⟩)
    (c6 : PySem.W.codeIn K cd6 "cut" = true)
    (k6 : PySem.W.keepIn K (.ref f6) = true)
    {f7 : Addr} {od7 an7 : Option Addr} {sl7 : Array (Option Value)} {oc7 kV7 dc7 pm7 cd7 ct7 : Value} (a7 : PySem.W.nsIn K mainGlobals "is_array_name" = some (some (.ref f7)))
    (l7 : K.lookup f7 = some ⟨oc7, od7, .func (PySem.W.fnOf "is_array_name" "is_array_name" (defArgs s_is_array_name) (defBody s_is_array_name) (defScope s_is_array_name) .none kV7 dc7 pm7 an7 cd7 ct7), sl7⟩)
    (c7 : PySem.W.codeIn K cd7 "is_array_name" = true)
    (k7 : PySem.W.keepIn K (.ref f7) = true)
    {f8 : Addr} {od8 an8 : Option Addr} {sl8 : Array (Option Value)} {oc8 kV8 dc8 pm8 cd8 ct8 : Value} (a8 : PySem.W.nsIn K mainGlobals "is_statement" = some (some (.ref f8)))
    (l8 : K.lookup f8 = some ⟨oc8, od8, .func (PySem.W.fnOf "is_statement" "is_statement" (defArgs s_is_statement) (defBody s_is_statement) (defScope s_is_statement) .none kV8 dc8 pm8 an8 cd8 ct8), sl8⟩)
    (c8 : PySem.W.codeIn K cd8 "is_statement" = true)
    (k8 : PySem.W.keepIn K (.ref f8) = true)
    {f9 : Addr} {od9 an9 : Option Addr} {sl9 : Array (Option Value)} {oc9 kV9 dc9 pm9 cd9 ct9 : Value} (a9 : PySem.W.nsIn K mainGlobals "count_up_to" = some (some (.ref f9)))
    (l9 : K.lookup f9 = some ⟨oc9, od9, .func (PySem.W.fnOf "count_up_to" "count_up_to" (defArgs s_count_up_to) (defBody s_count_up_to) (defScope s_count_up_to) .none kV9 dc9 pm9 an9 cd9 ct9), sl9⟩)
    (c9 : PySem.W.codeIn K cd9 "count_up_to" = true)
    (k9 : PySem.W.keepIn K (.ref f9) = true)
    {f10 : Addr} {od10 an10 : Option Addr} {sl10 : Array (Option Value)} {oc10 kV10 dc10 pm10 cd10 ct10 : Value} (a10 : PySem.W.nsIn K mainGlobals "check_wave" = some (some (.ref f10)))
    (l10 : K.lookup f10 = some ⟨oc10, od10, .func (PySem.W.fnOf "check_wave" "check_wave" (defArgs s_check_wave) (defBody s_check_wave) (defScope s_check_wave) .none kV10 dc10 pm10 an10 cd10 ct10), sl10⟩)
    (c10 : PySem.W.codeIn K cd10 "check_wave" = true)
    (k10 : PySem.W.keepIn K (.ref f10) = true)
    {f11 : Addr} {od11 an11 : Option Addr} {sl11 : Array (Option Value)} {oc11 kV11 dc11 pm11 cd11 ct11 : Value} (a11 : PySem.W.nsIn K mainGlobals "check_statement_number" = some (some (.ref f11)))
    (l11 : K.lookup f11 = some ⟨oc11, od11, .func (PySem.W.fnOf "check_statement_number" "check_statement_number" (defArgs s_check_statement_number) (defBody s_check_statement_number) (defScope s_check_statement_number) .none kV11 dc11 pm11 an11 cd11 ct11), sl11⟩)
    (c11 : PySem.W.codeIn K cd11 "check_statement_number" = true)
    (k11 : PySem.W.keepIn K (.ref f11) = true)
    {f12 : Addr} {od12 an12 : Option Addr} {sl12 : Array (Option Value)} {oc12 kV12 dc12 pm12 cd12 ct12 : Value} (a12 : PySem.W.nsIn K mainGlobals "check_number_of_wave" = some (some (.ref f12)))
    (l12 : K.lookup f12 = some ⟨oc12, od12, .func (PySem.W.fnOf "check_number_of_wave" "check_number_of_wave" (defArgs s_check_number_of_wave) (defBody s_check_number_of_wave) (defScope s_check_number_of_wave) .none kV12 dc12 pm12 an12 cd12 ct12), sl12⟩)
    (c12 : PySem.W.codeIn K cd12 "check_number_of_wave" = true)
    (k12 : PySem.W.keepIn K (.ref f12) = true)
    {f13 : Addr} {od13 an13 : Option Addr} {sl13 : Array (Option Value)} {oc13 kV13 dc13 pm13 cd13 ct13 : Value} (a13 : PySem.W.findIn K (.ref C_Doing) "__init__" = some (some (.ref f13)))
    (bf13 : PySem.W.isFn K (.ref f13) = true)
    (l13 : K.lookup f13 = some ⟨oc13, od13, .func (PySem.W.fnOf "__init__" "Doing.__init__" (defArgs s_Doing___init__) (defBody s_Doing___init__) (defScope s_Doing___init__) .none kV13 dc13 pm13 an13 cd13 ct13), sl13⟩)
    (c13 : PySem.W.codeIn K cd13 "Doing.__init__" = true)
    (k13 : PySem.W.keepIn K (.ref f13) = true)
    {f14 : Addr} {od14 an14 : Option Addr} {sl14 : Array (Option Value)} {oc14 kV14 dc14 pm14 cd14 ct14 : Value} (a14 : PySem.W.nsIn K mainGlobals "doing_at" = some (some (.ref f14)))
    (l14 : K.lookup f14 = some ⟨oc14, od14, .func (PySem.W.fnOf "doing_at" "doing_at" (defArgs s_doing_at) (defBody s_doing_at) (defScope s_doing_at) .none kV14 dc14 pm14 an14 cd14 ct14), sl14⟩)
    (c14 : PySem.W.codeIn K cd14 "doing_at" = true)
    (k14 : PySem.W.keepIn K (.ref f14) = true)
    {f15 : Addr} {od15 an15 : Option Addr} {sl15 : Array (Option Value)} {oc15 kV15 dc15 pm15 cd15 ct15 : Value} (a15 : PySem.W.nsIn K mainGlobals "lanes_of_wave" = some (some (.ref f15)))
    (l15 : K.lookup f15 = some ⟨oc15, od15, .func (PySem.W.fnOf "lanes_of_wave" "lanes_of_wave" (defArgs s_lanes_of_wave) (defBody s_lanes_of_wave) (defScope s_lanes_of_wave) .none kV15 dc15 pm15 an15 cd15 ct15), sl15⟩)
    (c15 : PySem.W.codeIn K cd15 "lanes_of_wave" = true)
    (k15 : PySem.W.keepIn K (.ref f15) = true)
    {f16 : Addr} {od16 an16 : Option Addr} {sl16 : Array (Option Value)} {oc16 kV16 dc16 pm16 cd16 ct16 : Value} (a16 : PySem.W.nsIn K mainGlobals "waves_with_lanes" = some (some (.ref f16)))
    (l16 : K.lookup f16 = some ⟨oc16, od16, .func (PySem.W.fnOf "waves_with_lanes" "waves_with_lanes" (defArgs s_waves_with_lanes) (defBody s_waves_with_lanes) (defScope s_waves_with_lanes) .none kV16 dc16 pm16 an16 cd16 ct16), sl16⟩)
    (c16 : PySem.W.codeIn K cd16 "waves_with_lanes" = true)
    (k16 : PySem.W.keepIn K (.ref f16) = true)
    {f17 : Addr} {od17 an17 : Option Addr} {sl17 : Array (Option Value)} {oc17 kV17 dc17 pm17 cd17 ct17 : Value} (a17 : PySem.W.nsIn K mainGlobals "waves_by_lanes" = some (some (.ref f17)))
    (l17 : K.lookup f17 = some ⟨oc17, od17, .func (PySem.W.fnOf "waves_by_lanes" "waves_by_lanes" (defArgs s_waves_by_lanes) (defBody s_waves_by_lanes) (defScope s_waves_by_lanes) .none kV17 dc17 pm17 an17 cd17 ct17), sl17⟩)
    (c17 : PySem.W.codeIn K cd17 "waves_by_lanes" = true)
    (k17 : PySem.W.keepIn K (.ref f17) = true)
    {f18 : Addr} {od18 an18 : Option Addr} {sl18 : Array (Option Value)} {oc18 kV18 dc18 pm18 cd18 ct18 : Value} (a18 : PySem.W.nsIn K mainGlobals "count_waves" = some (some (.ref f18)))
    (l18 : K.lookup f18 = some ⟨oc18, od18, .func (PySem.W.fnOf "count_waves" "count_waves" (defArgs s_count_waves) (defBody s_count_waves) (defScope s_count_waves) .none kV18 dc18 pm18 an18 cd18 ct18), sl18⟩)
    (c18 : PySem.W.codeIn K cd18 "count_waves" = true)
    (k18 : PySem.W.keepIn K (.ref f18) = true)
    {f19 : Addr} {od19 an19 : Option Addr} {sl19 : Array (Option Value)} {oc19 kV19 dc19 pm19 cd19 ct19 : Value} (a19 : PySem.W.nsIn K mainGlobals "full_waves" = some (some (.ref f19)))
    (l19 : K.lookup f19 = some ⟨oc19, od19, .func (PySem.W.fnOf "full_waves" "full_waves" (defArgs s_full_waves) (defBody s_full_waves) (defScope s_full_waves) .none kV19 dc19 pm19 an19 cd19 ct19), sl19⟩)
    (c19 : PySem.W.codeIn K cd19 "full_waves" = true)
    (k19 : PySem.W.keepIn K (.ref f19) = true)
    {f20 : Addr} {od20 an20 : Option Addr} {sl20 : Array (Option Value)} {oc20 kV20 dc20 pm20 cd20 ct20 : Value} (a20 : PySem.W.nsIn K mainGlobals "lanes_in_wave" = some (some (.ref f20)))
    (l20 : K.lookup f20 = some ⟨oc20, od20, .func (PySem.W.fnOf "lanes_in_wave" "lanes_in_wave" (defArgs s_lanes_in_wave) (defBody s_lanes_in_wave) (defScope s_lanes_in_wave) .none kV20 dc20 pm20 an20 cd20 ct20), sl20⟩)
    (c20 : PySem.W.codeIn K cd20 "lanes_in_wave" = true)
    (k20 : PySem.W.keepIn K (.ref f20) = true)
    {f21 : Addr} {od21 an21 : Option Addr} {sl21 : Array (Option Value)} {oc21 kV21 dc21 pm21 cd21 ct21 : Value} (a21 : PySem.W.nsIn K mainGlobals "check_banks" = some (some (.ref f21)))
    (l21 : K.lookup f21 = some ⟨oc21, od21, .func (PySem.W.fnOf "check_banks" "check_banks" (defArgs s_check_banks) (defBody s_check_banks) (defScope s_check_banks) .none kV21 dc21 pm21 an21 cd21 ct21), sl21⟩)
    (c21 : PySem.W.codeIn K cd21 "check_banks" = true)
    (k21 : PySem.W.keepIn K (.ref f21) = true)
    {f22 : Addr} {od22 an22 : Option Addr} {sl22 : Array (Option Value)} {oc22 kV22 dc22 pm22 cd22 ct22 : Value} (a22 : PySem.W.nsIn K mainGlobals "degree_of_lanes" = some (some (.ref f22)))
    (l22 : K.lookup f22 = some ⟨oc22, od22, .func (PySem.W.fnOf "degree_of_lanes" "degree_of_lanes" (defArgs s_degree_of_lanes) (defBody s_degree_of_lanes) (defScope s_degree_of_lanes) .none kV22 dc22 pm22 an22 cd22 ct22), sl22⟩)
    (c22 : PySem.W.codeIn K cd22 "degree_of_lanes" = true)
    (k22 : PySem.W.keepIn K (.ref f22) = true)
    {f23 : Addr} {od23 an23 : Option Addr} {sl23 : Array (Option Value)} {oc23 kV23 dc23 pm23 cd23 ct23 : Value} (a23 : PySem.W.nsIn K mainGlobals "degrees" = some (some (.ref f23)))
    (l23 : K.lookup f23 = some ⟨oc23, od23, .func (PySem.W.fnOf "degrees" "degrees" (defArgs s_degrees) (defBody s_degrees) (defScope s_degrees) .none kV23 dc23 pm23 an23 cd23 ct23), sl23⟩)
    (c23 : PySem.W.codeIn K cd23 "degrees" = true)
    (k23 : PySem.W.keepIn K (.ref f23) = true)
    {f24 : Addr} {od24 an24 : Option Addr} {sl24 : Array (Option Value)} {oc24 kV24 dc24 pm24 cd24 ct24 : Value} (a24 : PySem.W.nsIn K mainGlobals "degree_of_wave" = some (some (.ref f24)))
    (l24 : K.lookup f24 = some ⟨oc24, od24, .func (PySem.W.fnOf "degree_of_wave" "degree_of_wave" (defArgs s_degree_of_wave) (defBody s_degree_of_wave) (defScope s_degree_of_wave) .none kV24 dc24 pm24 an24 cd24 ct24), sl24⟩)
    (c24 : PySem.W.codeIn K cd24 "degree_of_wave" = true)
    (k24 : PySem.W.keepIn K (.ref f24) = true)
    {f25 : Addr} {od25 an25 : Option Addr} {sl25 : Array (Option Value)} {oc25 kV25 dc25 pm25 cd25 ct25 : Value} (a25 : PySem.W.nsIn K mainGlobals "total_degree" = some (some (.ref f25)))
    (l25 : K.lookup f25 = some ⟨oc25, od25, .func (PySem.W.fnOf "total_degree" "total_degree" (defArgs s_total_degree) (defBody s_total_degree) (defScope s_total_degree) .none kV25 dc25 pm25 an25 cd25 ct25), sl25⟩)
    (c25 : PySem.W.codeIn K cd25 "total_degree" = true)
    (k25 : PySem.W.keepIn K (.ref f25) = true)
    {f26 : Addr} {od26 an26 : Option Addr} {sl26 : Array (Option Value)} {oc26 kV26 dc26 pm26 cd26 ct26 : Value} (a26 : PySem.W.nsIn K mainGlobals "greatest_degree" = some (some (.ref f26)))
    (l26 : K.lookup f26 = some ⟨oc26, od26, .func (PySem.W.fnOf "greatest_degree" "greatest_degree" (defArgs s_greatest_degree) (defBody s_greatest_degree) (defScope s_greatest_degree) .none kV26 dc26 pm26 an26 cd26 ct26), sl26⟩)
    (c26 : PySem.W.codeIn K cd26 "greatest_degree" = true)
    (k26 : PySem.W.keepIn K (.ref f26) = true)
    {f27 : Addr} {od27 an27 : Option Addr} {sl27 : Array (Option Value)} {oc27 kV27 dc27 pm27 cd27 ct27 : Value} (a27 : PySem.W.nsIn K mainGlobals "check_lanes" = some (some (.ref f27)))
    (l27 : K.lookup f27 = some ⟨oc27, od27, .func (PySem.W.fnOf "check_lanes" "check_lanes" (defArgs s_check_lanes) (defBody s_check_lanes) (defScope s_check_lanes) .none kV27 dc27 pm27 an27 cd27 ct27), sl27⟩)
    (c27 : PySem.W.codeIn K cd27 "check_lanes" = true)
    (k27 : PySem.W.keepIn K (.ref f27) = true)
    {f28 : Addr} {od28 an28 : Option Addr} {sl28 : Array (Option Value)} {oc28 kV28 dc28 pm28 cd28 ct28 : Value} (a28 : PySem.W.nsIn K mainGlobals "check_statement" = some (some (.ref f28)))
    (l28 : K.lookup f28 = some ⟨oc28, od28, .func (PySem.W.fnOf "check_statement" "check_statement" (defArgs s_check_statement) (defBody s_check_statement) (defScope s_check_statement) .none kV28 dc28 pm28 an28 cd28 ct28), sl28⟩)
    (c28 : PySem.W.codeIn K cd28 "check_statement" = true)
    (k28 : PySem.W.keepIn K (.ref f28) = true)
    {f29 : Addr} {od29 an29 : Option Addr} {sl29 : Array (Option Value)} {oc29 kV29 dc29 pm29 cd29 ct29 : Value} (a29 : PySem.W.nsIn K mainGlobals "check_barriers" = some (some (.ref f29)))
    (l29 : K.lookup f29 = some ⟨oc29, od29, .func (PySem.W.fnOf "check_barriers" "check_barriers" (defArgs s_check_barriers) (defBody s_check_barriers) (defScope s_check_barriers) .none kV29 dc29 pm29 an29 cd29 ct29), sl29⟩)
    (c29 : PySem.W.codeIn K cd29 "check_barriers" = true)
    (k29 : PySem.W.keepIn K (.ref f29) = true)
    {f30 : Addr} {od30 an30 : Option Addr} {sl30 : Array (Option Value)} {oc30 kV30 dc30 pm30 cd30 ct30 : Value} (a30 : PySem.W.findIn K (.ref C_Kernel) "__init__" = some (some (.ref f30)))
    (bf30 : PySem.W.isFn K (.ref f30) = true)
    {T30 : Addr} {ocT30 : Value} {odT30 : Option Addr} {slT30 : Array (Option Value)} {nT30 : Nat}    (l30 : K.lookup f30 = some ⟨oc30, od30, .func (PySem.W.fnOf "__init__" "Kernel.__init__" (defArgs s_Kernel___init__) (defBody s_Kernel___init__) (defScope s_Kernel___init__) (.ref T30) kV30 dc30 pm30 an30 cd30 ct30), sl30⟩)
    (c30 : PySem.W.codeIn K cd30 "Kernel.__init__" = true)
    (k30 : PySem.W.keepIn K (.ref f30) = true)
    {E30 : Addr} {odE30 : Option Addr} {slE30 : Array (Option Value)} {nE30 : Nat} (lT30 : K.lookup T30 = some ⟨ocT30, odT30, .seq #[.ref E30] nT30, slT30⟩)
    (lE30 : K.lookup E30 = some ⟨.type "tuple", odE30, .seq #[] nE30, slE30⟩)
    {f31 : Addr} {od31 an31 : Option Addr} {sl31 : Array (Option Value)} {oc31 kV31 dc31 pm31 cd31 ct31 : Value} {p31 : Addr} {re31 : List Value} (b31 : PySem.W.findIn K (.ref C_Kernel) "lanes" = some (some (.ref p31)))
    (a31 : PySem.W.recIn K p31 "property" = some (.ref f31 :: re31))
    (bg31 : PySem.W.specialIn K (.ref p31) "__get__" = some (some (.builtin "property.__get__")))
    (bt31 : PySem.W.takesIn K (.ref p31) = some true)
    (l31 : K.lookup f31 = some ⟨oc31, od31, .func (PySem.W.fnOf "lanes" "Kernel.lanes" (defArgs s_Kernel_lanes) (defBody s_Kernel_lanes) (defScope s_Kernel_lanes) .none kV31 dc31 pm31 an31 cd31 ct31), sl31⟩)
    (c31 : PySem.W.codeIn K cd31 "Kernel.lanes" = true)
    (k31 : PySem.W.keepIn K (.ref f31) = true)
    {f32 : Addr} {od32 an32 : Option Addr} {sl32 : Array (Option Value)} {oc32 kV32 dc32 pm32 cd32 ct32 : Value} {p32 : Addr} {re32 : List Value} (b32 : PySem.W.findIn K (.ref C_Kernel) "statements" = some (some (.ref p32)))
    (a32 : PySem.W.recIn K p32 "property" = some (.ref f32 :: re32))
    (bg32 : PySem.W.specialIn K (.ref p32) "__get__" = some (some (.builtin "property.__get__")))
    (bt32 : PySem.W.takesIn K (.ref p32) = some true)
    (l32 : K.lookup f32 = some ⟨oc32, od32, .func (PySem.W.fnOf "statements" "Kernel.statements" (defArgs s_Kernel_statements) (defBody s_Kernel_statements) (defScope s_Kernel_statements) .none kV32 dc32 pm32 an32 cd32 ct32), sl32⟩)
    (c32 : PySem.W.codeIn K cd32 "Kernel.statements" = true)
    (k32 : PySem.W.keepIn K (.ref f32) = true)
    {f33 : Addr} {od33 an33 : Option Addr} {sl33 : Array (Option Value)} {oc33 kV33 dc33 pm33 cd33 ct33 : Value} {p33 : Addr} {re33 : List Value} (b33 : PySem.W.findIn K (.ref C_Kernel) "barriers" = some (some (.ref p33)))
    (a33 : PySem.W.recIn K p33 "property" = some (.ref f33 :: re33))
    (bg33 : PySem.W.specialIn K (.ref p33) "__get__" = some (some (.builtin "property.__get__")))
    (bt33 : PySem.W.takesIn K (.ref p33) = some true)
    (l33 : K.lookup f33 = some ⟨oc33, od33, .func (PySem.W.fnOf "barriers" "Kernel.barriers" (defArgs s_Kernel_barriers) (defBody s_Kernel_barriers) (defScope s_Kernel_barriers) .none kV33 dc33 pm33 an33 cd33 ct33), sl33⟩)
    (c33 : PySem.W.codeIn K cd33 "Kernel.barriers" = true)
    (k33 : PySem.W.keepIn K (.ref f33) = true)
    {f34 : Addr} {od34 an34 : Option Addr} {sl34 : Array (Option Value)} {oc34 kV34 dc34 pm34 cd34 ct34 : Value} (a34 : PySem.W.findIn K (.ref C_Kernel) "__len__" = some (some (.ref f34)))
    (bf34 : PySem.W.isFn K (.ref f34) = true)
    (l34 : K.lookup f34 = some ⟨oc34, od34, .func (PySem.W.fnOf "__len__" "Kernel.__len__" (defArgs s_Kernel___len__) (defBody s_Kernel___len__) (defScope s_Kernel___len__) .none kV34 dc34 pm34 an34 cd34 ct34), sl34⟩)
    (c34 : PySem.W.codeIn K cd34 "Kernel.__len__" = true)
    (k34 : PySem.W.keepIn K (.ref f34) = true)
    {f35 : Addr} {od35 an35 : Option Addr} {sl35 : Array (Option Value)} {oc35 kV35 dc35 pm35 cd35 ct35 : Value} (a35 : PySem.W.nsIn K mainGlobals "sum_of_quotients" = some (some (.ref f35)))
    (l35 : K.lookup f35 = some ⟨oc35, od35, .func (PySem.W.fnOf "sum_of_quotients" "sum_of_quotients" (defArgs s_sum_of_quotients) (defBody s_sum_of_quotients) (defScope s_sum_of_quotients) .none kV35 dc35 pm35 an35 cd35 ct35), sl35⟩)
    (c35 : PySem.W.codeIn K cd35 "sum_of_quotients" = true)
    (k35 : PySem.W.keepIn K (.ref f35) = true)
    {f36 : Addr} {od36 an36 : Option Addr} {sl36 : Array (Option Value)} {oc36 kV36 dc36 pm36 cd36 ct36 : Value} (a36 : PySem.W.nsIn K mainGlobals "check_size" = some (some (.ref f36)))
    (l36 : K.lookup f36 = some ⟨oc36, od36, .func (PySem.W.fnOf "check_size" "check_size" (defArgs s_check_size) (defBody s_check_size) (defScope s_check_size) .none kV36 dc36 pm36 an36 cd36 ct36), sl36⟩)
    (c36 : PySem.W.codeIn K cd36 "check_size" = true)
    (k36 : PySem.W.keepIn K (.ref f36) = true)
    {f37 : Addr} {od37 an37 : Option Addr} {sl37 : Array (Option Value)} {oc37 kV37 dc37 pm37 cd37 ct37 : Value} (a37 : PySem.W.nsIn K mainGlobals "lines_of_wave" = some (some (.ref f37)))
    (l37 : K.lookup f37 = some ⟨oc37, od37, .func (PySem.W.fnOf "lines_of_wave" "lines_of_wave" (defArgs s_lines_of_wave) (defBody s_lines_of_wave) (defScope s_lines_of_wave) .none kV37 dc37 pm37 an37 cd37 ct37), sl37⟩)
    (c37 : PySem.W.codeIn K cd37 "lines_of_wave" = true)
    (k37 : PySem.W.keepIn K (.ref f37) = true)
    {f38 : Addr} {od38 an38 : Option Addr} {sl38 : Array (Option Value)} {oc38 kV38 dc38 pm38 cd38 ct38 : Value} (a38 : PySem.W.nsIn K mainGlobals "count_changes" = some (some (.ref f38)))
    (l38 : K.lookup f38 = some ⟨oc38, od38, .func (PySem.W.fnOf "count_changes" "count_changes" (defArgs s_count_changes) (defBody s_count_changes) (defScope s_count_changes) .none kV38 dc38 pm38 an38 cd38 ct38), sl38⟩)
    (c38 : PySem.W.codeIn K cd38 "count_changes" = true)
    (k38 : PySem.W.keepIn K (.ref f38) = true)
    {f39 : Addr} {od39 an39 : Option Addr} {sl39 : Array (Option Value)} {oc39 kV39 dc39 pm39 cd39 ct39 : Value} (a39 : PySem.W.nsIn K mainGlobals "count_lines" = some (some (.ref f39)))
    (l39 : K.lookup f39 = some ⟨oc39, od39, .func (PySem.W.fnOf "count_lines" "count_lines" (defArgs s_count_lines) (defBody s_count_lines) (defScope s_count_lines) .none kV39 dc39 pm39 an39 cd39 ct39), sl39⟩)
    (c39 : PySem.W.codeIn K cd39 "count_lines" = true)
    (k39 : PySem.W.keepIn K (.ref f39) = true)
    {f40 : Addr} {od40 an40 : Option Addr} {sl40 : Array (Option Value)} {oc40 kV40 dc40 pm40 cd40 ct40 : Value} (a40 : PySem.W.nsIn K mainGlobals "_law_bag" = some (some (.ref f40)))
    (l40 : K.lookup f40 = some ⟨oc40, od40, .func (PySem.W.fnOf "_law_bag" "_law_bag" (defArgs s__law_bag) (defBody s__law_bag) (defScope s__law_bag) .none kV40 dc40 pm40 an40 cd40 ct40), sl40⟩)
    (c40 : PySem.W.codeIn K cd40 "_law_bag" = true)
    (k40 : PySem.W.keepIn K (.ref f40) = true)
    {f41 : Addr} {od41 an41 : Option Addr} {sl41 : Array (Option Value)} {oc41 kV41 dc41 pm41 cd41 ct41 : Value} (a41 : PySem.W.nsIn K mainGlobals "_law_draw" = some (some (.ref f41)))
    (l41 : K.lookup f41 = some ⟨oc41, od41, .func (PySem.W.fnOf "_law_draw" "_law_draw" (defArgs s__law_draw) (defBody s__law_draw) (defScope s__law_draw) .none kV41 dc41 pm41 an41 cd41 ct41), sl41⟩)
    (c41 : PySem.W.codeIn K cd41 "_law_draw" = true)
    (k41 : PySem.W.keepIn K (.ref f41) = true)
    {f42 : Addr} {od42 an42 : Option Addr} {sl42 : Array (Option Value)} {oc42 kV42 dc42 pm42 cd42 ct42 : Value} (a42 : PySem.W.nsIn K mainGlobals "_law_in" = some (some (.ref f42)))
    (l42 : K.lookup f42 = some ⟨oc42, od42, .func (PySem.W.fnOf "_law_in" "_law_in" (defArgs s__law_in) (defBody s__law_in) (defScope s__law_in) .none kV42 dc42 pm42 an42 cd42 ct42), sl42⟩)
    (c42 : PySem.W.codeIn K cd42 "_law_in" = true)
    (k42 : PySem.W.keepIn K (.ref f42) = true)
    {f43 : Addr} {od43 an43 : Option Addr} {sl43 : Array (Option Value)} {oc43 kV43 dc43 pm43 cd43 ct43 : Value} (a43 : PySem.W.nsIn K mainGlobals "_law_far_span" = some (some (.ref f43)))
    (l43 : K.lookup f43 = some ⟨oc43, od43, .func (PySem.W.fnOf "_law_far_span" "_law_far_span" (defArgs s__law_far_span) (defBody s__law_far_span) (defScope s__law_far_span) .none kV43 dc43 pm43 an43 cd43 ct43), sl43⟩)
    (c43 : PySem.W.codeIn K cd43 "_law_far_span" = true)
    (k43 : PySem.W.keepIn K (.ref f43) = true)
    {f44 : Addr} {od44 an44 : Option Addr} {sl44 : Array (Option Value)} {oc44 kV44 dc44 pm44 cd44 ct44 : Value} (a44 : PySem.W.nsIn K mainGlobals "_law_wave_right" = some (some (.ref f44)))
    (l44 : K.lookup f44 = some ⟨oc44, od44, .func (PySem.W.fnOf "_law_wave_right" "_law_wave_right" (defArgs s__law_wave_right) (defBody s__law_wave_right) (defScope s__law_wave_right) .none kV44 dc44 pm44 an44 cd44 ct44), sl44⟩)
    (c44 : PySem.W.codeIn K cd44 "_law_wave_right" = true)
    (k44 : PySem.W.keepIn K (.ref f44) = true)
    {f45 : Addr} {od45 an45 : Option Addr} {sl45 : Array (Option Value)} {oc45 kV45 dc45 pm45 cd45 ct45 : Value} (a45 : PySem.W.nsIn K mainGlobals "_law_sums" = some (some (.ref f45)))
    (l45 : K.lookup f45 = some ⟨oc45, od45, .func (PySem.W.fnOf "_law_sums" "_law_sums" (defArgs s__law_sums) (defBody s__law_sums) (defScope s__law_sums) .none kV45 dc45 pm45 an45 cd45 ct45), sl45⟩)
    (c45 : PySem.W.codeIn K cd45 "_law_sums" = true)
    (k45 : PySem.W.keepIn K (.ref f45) = true)
    {f46 : Addr} {od46 an46 : Option Addr} {sl46 : Array (Option Value)} {oc46 kV46 dc46 pm46 cd46 ct46 : Value} (a46 : PySem.W.nsIn K mainGlobals "law" = some (some (.ref f46)))
    (l46 : K.lookup f46 = some ⟨oc46, od46, .func (PySem.W.fnOf "law" "law" (defArgs s_law) (defBody s_law) (defScope s_law) .none kV46 dc46 pm46 an46 cd46 ct46), sl46⟩)
    (c46 : PySem.W.codeIn K cd46 "law" = true)
    (k46 : PySem.W.keepIn K (.ref f46) = true)
    {fI CS : Addr} {p1 p2 q1 q2 q3 q4 : Pos} {odI anI : Option Addr} {slI : Array (Option Value)} {ocI dcI pmI cdI ctI : Value}
    {C_InvalidAccess N_InvalidAccess : Addr} {nm_InvalidAccess q_InvalidAccess : Str} {bs_InvalidAccess sub_InvalidAccess : List Value} {sn_InvalidAccess : List Str} {ab_InvalidAccess : Bool} {col_InvalidAccess : Option Bool} {dd_InvalidAccess : Option Addr} {m0_InvalidAccess m1_InvalidAccess m2_InvalidAccess m3_InvalidAccess m5_InvalidAccess : Option Value}
    (x0_InvalidAccess : PySem.W.nsIn K mainGlobals "InvalidAccess" = some (some (.ref C_InvalidAccess)))
    (x1_InvalidAccess : K.lookup C_InvalidAccess = some (excClassObj nm_InvalidAccess q_InvalidAccess C_InvalidAccess N_InvalidAccess bs_InvalidAccess [.ref CS, .type "ValueError", .type "Exception", .type "BaseException", .type "object"] true sn_InvalidAccess sub_InvalidAccess ab_InvalidAccess col_InvalidAccess dd_InvalidAccess m0_InvalidAccess m1_InvalidAccess m2_InvalidAccess m3_InvalidAccess m5_InvalidAccess "ValueError.__new__"))
    (x2_InvalidAccess : PySem.W.findIn K (.ref C_InvalidAccess) "__setattr__" = some (some (.builtin "object.__setattr__")))
    (x3_InvalidAccess : PySem.W.findIn K (.ref C_InvalidAccess) "__getattribute__" = some (some (.builtin "BaseException.__getattribute__")))
    (x4_InvalidAccess : PySem.W.findIn K (.ref C_InvalidAccess) "__getattr__" = some none)
    (x5_InvalidAccess : PySem.W.findIn K (.ref C_InvalidAccess) "value" = some none)
    (x7_InvalidAccess : PySem.W.keepIn K (.ref C_InvalidAccess) = true)
    (x8_InvalidAccess : PySem.W.subIn K (.ref C_InvalidAccess) (.type "BaseException") = some true)
    (x9_InvalidAccess : PySem.W.typeIn K (.ref C_InvalidAccess) = some (.type "type"))
    (xa_InvalidAccess : PySem.W.hasDictIn K C_InvalidAccess = true)
    (xb_InvalidAccess : PySem.W.isClsIn K C_InvalidAccess = true)
    (xc_InvalidAccess : PySem.W.subIn K (.ref C_InvalidAccess) (.ref C_InvalidAccess) = some true)
    (x6_InvalidAccess : PySem.W.findIn K (.ref C_InvalidAccess) "__init__" = some (some (.ref fI)))
    {C_InvalidBarrier N_InvalidBarrier : Addr} {nm_InvalidBarrier q_InvalidBarrier : Str} {bs_InvalidBarrier sub_InvalidBarrier : List Value} {sn_InvalidBarrier : List Str} {ab_InvalidBarrier : Bool} {col_InvalidBarrier : Option Bool} {dd_InvalidBarrier : Option Addr} {m0_InvalidBarrier m1_InvalidBarrier m2_InvalidBarrier m3_InvalidBarrier m5_InvalidBarrier : Option Value}
    (x0_InvalidBarrier : PySem.W.nsIn K mainGlobals "InvalidBarrier" = some (some (.ref C_InvalidBarrier)))
    (x1_InvalidBarrier : K.lookup C_InvalidBarrier = some (excClassObj nm_InvalidBarrier q_InvalidBarrier C_InvalidBarrier N_InvalidBarrier bs_InvalidBarrier [.ref CS, .type "ValueError", .type "Exception", .type "BaseException", .type "object"] true sn_InvalidBarrier sub_InvalidBarrier ab_InvalidBarrier col_InvalidBarrier dd_InvalidBarrier m0_InvalidBarrier m1_InvalidBarrier m2_InvalidBarrier m3_InvalidBarrier m5_InvalidBarrier "ValueError.__new__"))
    (x2_InvalidBarrier : PySem.W.findIn K (.ref C_InvalidBarrier) "__setattr__" = some (some (.builtin "object.__setattr__")))
    (x3_InvalidBarrier : PySem.W.findIn K (.ref C_InvalidBarrier) "__getattribute__" = some (some (.builtin "BaseException.__getattribute__")))
    (x4_InvalidBarrier : PySem.W.findIn K (.ref C_InvalidBarrier) "__getattr__" = some none)
    (x5_InvalidBarrier : PySem.W.findIn K (.ref C_InvalidBarrier) "value" = some none)
    (x7_InvalidBarrier : PySem.W.keepIn K (.ref C_InvalidBarrier) = true)
    (x8_InvalidBarrier : PySem.W.subIn K (.ref C_InvalidBarrier) (.type "BaseException") = some true)
    (x9_InvalidBarrier : PySem.W.typeIn K (.ref C_InvalidBarrier) = some (.type "type"))
    (xa_InvalidBarrier : PySem.W.hasDictIn K C_InvalidBarrier = true)
    (xb_InvalidBarrier : PySem.W.isClsIn K C_InvalidBarrier = true)
    (xc_InvalidBarrier : PySem.W.subIn K (.ref C_InvalidBarrier) (.ref C_InvalidBarrier) = some true)
    (x6_InvalidBarrier : PySem.W.findIn K (.ref C_InvalidBarrier) "__init__" = some (some (.ref fI)))
    {C_InvalidGuard N_InvalidGuard : Addr} {nm_InvalidGuard q_InvalidGuard : Str} {bs_InvalidGuard sub_InvalidGuard : List Value} {sn_InvalidGuard : List Str} {ab_InvalidGuard : Bool} {col_InvalidGuard : Option Bool} {dd_InvalidGuard : Option Addr} {m0_InvalidGuard m1_InvalidGuard m2_InvalidGuard m3_InvalidGuard m5_InvalidGuard : Option Value}
    (x0_InvalidGuard : PySem.W.nsIn K mainGlobals "InvalidGuard" = some (some (.ref C_InvalidGuard)))
    (x1_InvalidGuard : K.lookup C_InvalidGuard = some (excClassObj nm_InvalidGuard q_InvalidGuard C_InvalidGuard N_InvalidGuard bs_InvalidGuard [.ref CS, .type "ValueError", .type "Exception", .type "BaseException", .type "object"] true sn_InvalidGuard sub_InvalidGuard ab_InvalidGuard col_InvalidGuard dd_InvalidGuard m0_InvalidGuard m1_InvalidGuard m2_InvalidGuard m3_InvalidGuard m5_InvalidGuard "ValueError.__new__"))
    (x2_InvalidGuard : PySem.W.findIn K (.ref C_InvalidGuard) "__setattr__" = some (some (.builtin "object.__setattr__")))
    (x3_InvalidGuard : PySem.W.findIn K (.ref C_InvalidGuard) "__getattribute__" = some (some (.builtin "BaseException.__getattribute__")))
    (x4_InvalidGuard : PySem.W.findIn K (.ref C_InvalidGuard) "__getattr__" = some none)
    (x5_InvalidGuard : PySem.W.findIn K (.ref C_InvalidGuard) "value" = some none)
    (x7_InvalidGuard : PySem.W.keepIn K (.ref C_InvalidGuard) = true)
    (x8_InvalidGuard : PySem.W.subIn K (.ref C_InvalidGuard) (.type "BaseException") = some true)
    (x9_InvalidGuard : PySem.W.typeIn K (.ref C_InvalidGuard) = some (.type "type"))
    (xa_InvalidGuard : PySem.W.hasDictIn K C_InvalidGuard = true)
    (xb_InvalidGuard : PySem.W.isClsIn K C_InvalidGuard = true)
    (xc_InvalidGuard : PySem.W.subIn K (.ref C_InvalidGuard) (.ref C_InvalidGuard) = some true)
    (x6_InvalidGuard : PySem.W.findIn K (.ref C_InvalidGuard) "__init__" = some (some (.ref fI)))
    {C_InvalidLanes N_InvalidLanes : Addr} {nm_InvalidLanes q_InvalidLanes : Str} {bs_InvalidLanes sub_InvalidLanes : List Value} {sn_InvalidLanes : List Str} {ab_InvalidLanes : Bool} {col_InvalidLanes : Option Bool} {dd_InvalidLanes : Option Addr} {m0_InvalidLanes m1_InvalidLanes m2_InvalidLanes m3_InvalidLanes m5_InvalidLanes : Option Value}
    (x0_InvalidLanes : PySem.W.nsIn K mainGlobals "InvalidLanes" = some (some (.ref C_InvalidLanes)))
    (x1_InvalidLanes : K.lookup C_InvalidLanes = some (excClassObj nm_InvalidLanes q_InvalidLanes C_InvalidLanes N_InvalidLanes bs_InvalidLanes [.ref CS, .type "ValueError", .type "Exception", .type "BaseException", .type "object"] true sn_InvalidLanes sub_InvalidLanes ab_InvalidLanes col_InvalidLanes dd_InvalidLanes m0_InvalidLanes m1_InvalidLanes m2_InvalidLanes m3_InvalidLanes m5_InvalidLanes "ValueError.__new__"))
    (x2_InvalidLanes : PySem.W.findIn K (.ref C_InvalidLanes) "__setattr__" = some (some (.builtin "object.__setattr__")))
    (x3_InvalidLanes : PySem.W.findIn K (.ref C_InvalidLanes) "__getattribute__" = some (some (.builtin "BaseException.__getattribute__")))
    (x4_InvalidLanes : PySem.W.findIn K (.ref C_InvalidLanes) "__getattr__" = some none)
    (x5_InvalidLanes : PySem.W.findIn K (.ref C_InvalidLanes) "value" = some none)
    (x7_InvalidLanes : PySem.W.keepIn K (.ref C_InvalidLanes) = true)
    (x8_InvalidLanes : PySem.W.subIn K (.ref C_InvalidLanes) (.type "BaseException") = some true)
    (x9_InvalidLanes : PySem.W.typeIn K (.ref C_InvalidLanes) = some (.type "type"))
    (xa_InvalidLanes : PySem.W.hasDictIn K C_InvalidLanes = true)
    (xb_InvalidLanes : PySem.W.isClsIn K C_InvalidLanes = true)
    (xc_InvalidLanes : PySem.W.subIn K (.ref C_InvalidLanes) (.ref C_InvalidLanes) = some true)
    (x6_InvalidLanes : PySem.W.findIn K (.ref C_InvalidLanes) "__init__" = some (some (.ref fI)))
    {C_InvalidNumber N_InvalidNumber : Addr} {nm_InvalidNumber q_InvalidNumber : Str} {bs_InvalidNumber sub_InvalidNumber : List Value} {sn_InvalidNumber : List Str} {ab_InvalidNumber : Bool} {col_InvalidNumber : Option Bool} {dd_InvalidNumber : Option Addr} {m0_InvalidNumber m1_InvalidNumber m2_InvalidNumber m3_InvalidNumber m5_InvalidNumber : Option Value}
    (x0_InvalidNumber : PySem.W.nsIn K mainGlobals "InvalidNumber" = some (some (.ref C_InvalidNumber)))
    (x1_InvalidNumber : K.lookup C_InvalidNumber = some (excClassObj nm_InvalidNumber q_InvalidNumber C_InvalidNumber N_InvalidNumber bs_InvalidNumber [.ref CS, .type "ValueError", .type "Exception", .type "BaseException", .type "object"] true sn_InvalidNumber sub_InvalidNumber ab_InvalidNumber col_InvalidNumber dd_InvalidNumber m0_InvalidNumber m1_InvalidNumber m2_InvalidNumber m3_InvalidNumber m5_InvalidNumber "ValueError.__new__"))
    (x2_InvalidNumber : PySem.W.findIn K (.ref C_InvalidNumber) "__setattr__" = some (some (.builtin "object.__setattr__")))
    (x3_InvalidNumber : PySem.W.findIn K (.ref C_InvalidNumber) "__getattribute__" = some (some (.builtin "BaseException.__getattribute__")))
    (x4_InvalidNumber : PySem.W.findIn K (.ref C_InvalidNumber) "__getattr__" = some none)
    (x5_InvalidNumber : PySem.W.findIn K (.ref C_InvalidNumber) "value" = some none)
    (x7_InvalidNumber : PySem.W.keepIn K (.ref C_InvalidNumber) = true)
    (x8_InvalidNumber : PySem.W.subIn K (.ref C_InvalidNumber) (.type "BaseException") = some true)
    (x9_InvalidNumber : PySem.W.typeIn K (.ref C_InvalidNumber) = some (.type "type"))
    (xa_InvalidNumber : PySem.W.hasDictIn K C_InvalidNumber = true)
    (xb_InvalidNumber : PySem.W.isClsIn K C_InvalidNumber = true)
    (xc_InvalidNumber : PySem.W.subIn K (.ref C_InvalidNumber) (.ref C_InvalidNumber) = some true)
    (x6_InvalidNumber : PySem.W.findIn K (.ref C_InvalidNumber) "__init__" = some (some (.ref fI)))
    {C_InvalidStatement N_InvalidStatement : Addr} {nm_InvalidStatement q_InvalidStatement : Str} {bs_InvalidStatement sub_InvalidStatement : List Value} {sn_InvalidStatement : List Str} {ab_InvalidStatement : Bool} {col_InvalidStatement : Option Bool} {dd_InvalidStatement : Option Addr} {m0_InvalidStatement m1_InvalidStatement m2_InvalidStatement m3_InvalidStatement m5_InvalidStatement : Option Value}
    (x0_InvalidStatement : PySem.W.nsIn K mainGlobals "InvalidStatement" = some (some (.ref C_InvalidStatement)))
    (x1_InvalidStatement : K.lookup C_InvalidStatement = some (excClassObj nm_InvalidStatement q_InvalidStatement C_InvalidStatement N_InvalidStatement bs_InvalidStatement [.ref CS, .type "ValueError", .type "Exception", .type "BaseException", .type "object"] true sn_InvalidStatement sub_InvalidStatement ab_InvalidStatement col_InvalidStatement dd_InvalidStatement m0_InvalidStatement m1_InvalidStatement m2_InvalidStatement m3_InvalidStatement m5_InvalidStatement "ValueError.__new__"))
    (x2_InvalidStatement : PySem.W.findIn K (.ref C_InvalidStatement) "__setattr__" = some (some (.builtin "object.__setattr__")))
    (x3_InvalidStatement : PySem.W.findIn K (.ref C_InvalidStatement) "__getattribute__" = some (some (.builtin "BaseException.__getattribute__")))
    (x4_InvalidStatement : PySem.W.findIn K (.ref C_InvalidStatement) "__getattr__" = some none)
    (x5_InvalidStatement : PySem.W.findIn K (.ref C_InvalidStatement) "value" = some none)
    (x7_InvalidStatement : PySem.W.keepIn K (.ref C_InvalidStatement) = true)
    (x8_InvalidStatement : PySem.W.subIn K (.ref C_InvalidStatement) (.type "BaseException") = some true)
    (x9_InvalidStatement : PySem.W.typeIn K (.ref C_InvalidStatement) = some (.type "type"))
    (xa_InvalidStatement : PySem.W.hasDictIn K C_InvalidStatement = true)
    (xb_InvalidStatement : PySem.W.isClsIn K C_InvalidStatement = true)
    (xc_InvalidStatement : PySem.W.subIn K (.ref C_InvalidStatement) (.ref C_InvalidStatement) = some true)
    (x6_InvalidStatement : PySem.W.findIn K (.ref C_InvalidStatement) "__init__" = some (some (.ref fI)))
    (lI : K.lookup fI = some ⟨ocI, odI, .func (PySem.W.fnOf "__init__" "StrideError.__init__" (PySem.ErrX.iA p1 p2) (PySem.ErrX.iB q1 q2 q3 q4) PySem.ErrX.iS .none .none dcI pmI anI cdI ctI), slI⟩)
    (cI : PySem.W.codeIn K cdI "StrideError.__init__" = true)
    (tI : PySem.W.typeIn K (.ref fI) = some (.type "function"))
    (z_abs : PySem.W.nsIn K mainGlobals "abs" = some none)
    (z_all : PySem.W.nsIn K mainGlobals "all" = some none)
    (z_enumerate : PySem.W.nsIn K mainGlobals "enumerate" = some none)
    (z_gcd : PySem.W.nsIn K mainGlobals "gcd" = some (some (.builtin "math.gcd")))
    (z_len : PySem.W.nsIn K mainGlobals "len" = some none)
    (z_list : PySem.W.nsIn K mainGlobals "list" = some none)
    (z_max : PySem.W.nsIn K mainGlobals "max" = some none)
    (z_min : PySem.W.nsIn K mainGlobals "min" = some none)
    (z_range : PySem.W.nsIn K mainGlobals "range" = some none)
    (z_set : PySem.W.nsIn K mainGlobals "set" = some none)
    (z_sorted : PySem.W.nsIn K mainGlobals "sorted" = some none)
    (z_sum : PySem.W.nsIn K mainGlobals "sum" = some none)
    (z_zip : PySem.W.nsIn K mainGlobals "zip" = some none)
    {t_MOST_BANKS : Tok} (gc_MOST_BANKS : PySem.W.nsIn K mainGlobals "MOST_BANKS" = some (some (.int 4096 t_MOST_BANKS)))
    {t_MOST_LANES : Tok} (gc_MOST_LANES : PySem.W.nsIn K mainGlobals "MOST_LANES" = some (some (.int 32 t_MOST_LANES)))
    {t_WRITTEN : Tok} (gc_WRITTEN : PySem.W.nsIn K mainGlobals "WRITTEN" = some (some (.int 2 t_WRITTEN)))
    {d_ACCESSES : Addr} {es_ACCESSES : Array DictEntry} {n_ACCESSES : Nat} (x0_ACCESSES : PySem.W.nsIn K mainGlobals "ACCESSES" = some (some (.ref d_ACCESSES)))
    (xd_ACCESSES : K.lookup d_ACCESSES = some ⟨.type "dict", none, .dict es_ACCESSES n_ACCESSES, #[]⟩)
    (xl_ACCESSES : es_ACCESSES.toList.map He.keyOf = He.keysIn w.params ["put", "move", "sum"])
    (xw_ACCESSES : (d_ACCESSES == sysModules) = false)
    {dv_ACCESSES_2 : Addr} {odv_ACCESSES_2 : Option Addr} {slv_ACCESSES_2 : Array (Option Value)} {nv_ACCESSES_2 : Nat} {tv_ACCESSES_2_0 tv_ACCESSES_2_1 tv_ACCESSES_2_2 : Tok} (xv_ACCESSES_2 : PySem.W.nsIn K d_ACCESSES "sum" = some (some (.ref dv_ACCESSES_2)))
    (xu_ACCESSES_2 : K.lookup dv_ACCESSES_2 = some ⟨.type "tuple", odv_ACCESSES_2, .seq #[.int 5 tv_ACCESSES_2_0, .int 8 tv_ACCESSES_2_1, .int 2 tv_ACCESSES_2_2] nv_ACCESSES_2, slv_ACCESSES_2⟩)
    {dv_ACCESSES_1 : Addr} {odv_ACCESSES_1 : Option Addr} {slv_ACCESSES_1 : Array (Option Value)} {nv_ACCESSES_1 : Nat} {tv_ACCESSES_1_0 tv_ACCESSES_1_1 : Tok} (xv_ACCESSES_1 : PySem.W.nsIn K d_ACCESSES "move" = some (some (.ref dv_ACCESSES_1)))
    (xu_ACCESSES_1 : K.lookup dv_ACCESSES_1 = some ⟨.type "tuple", odv_ACCESSES_1, .seq #[.int 5 tv_ACCESSES_1_0, .int 2 tv_ACCESSES_1_1] nv_ACCESSES_1, slv_ACCESSES_1⟩)
    {dv_ACCESSES_0 : Addr} {odv_ACCESSES_0 : Option Addr} {slv_ACCESSES_0 : Array (Option Value)} {nv_ACCESSES_0 : Nat} {tv_ACCESSES_0_0 : Tok} (xv_ACCESSES_0 : PySem.W.nsIn K d_ACCESSES "put" = some (some (.ref dv_ACCESSES_0)))
    (xu_ACCESSES_0 : K.lookup dv_ACCESSES_0 = some ⟨.type "tuple", odv_ACCESSES_0, .seq #[.int 2 tv_ACCESSES_0_0] nv_ACCESSES_0, slv_ACCESSES_0⟩)
    {d_ARRAYS : Addr} {es_ARRAYS : Array DictEntry} {n_ARRAYS : Nat} (x0_ARRAYS : PySem.W.nsIn K mainGlobals "ARRAYS" = some (some (.ref d_ARRAYS)))
    (xd_ARRAYS : K.lookup d_ARRAYS = some ⟨.type "dict", none, .dict es_ARRAYS n_ARRAYS, #[]⟩)
    (xl_ARRAYS : es_ARRAYS.toList.map He.keyOf = He.keysIn w.params ["put", "move", "sum"])
    (xw_ARRAYS : (d_ARRAYS == sysModules) = false)
    {dv_ARRAYS_2 : Addr} {odv_ARRAYS_2 : Option Addr} {slv_ARRAYS_2 : Array (Option Value)} {nv_ARRAYS_2 : Nat} {tv_ARRAYS_2_0 tv_ARRAYS_2_1 tv_ARRAYS_2_2 : Tok} (xv_ARRAYS_2 : PySem.W.nsIn K d_ARRAYS "sum" = some (some (.ref dv_ARRAYS_2)))
    (xu_ARRAYS_2 : K.lookup dv_ARRAYS_2 = some ⟨.type "tuple", odv_ARRAYS_2, .seq #[.int 2 tv_ARRAYS_2_0, .int 5 tv_ARRAYS_2_1, .int 8 tv_ARRAYS_2_2] nv_ARRAYS_2, slv_ARRAYS_2⟩)
    {dv_ARRAYS_1 : Addr} {odv_ARRAYS_1 : Option Addr} {slv_ARRAYS_1 : Array (Option Value)} {nv_ARRAYS_1 : Nat} {tv_ARRAYS_1_0 tv_ARRAYS_1_1 : Tok} (xv_ARRAYS_1 : PySem.W.nsIn K d_ARRAYS "move" = some (some (.ref dv_ARRAYS_1)))
    (xu_ARRAYS_1 : K.lookup dv_ARRAYS_1 = some ⟨.type "tuple", odv_ARRAYS_1, .seq #[.int 2 tv_ARRAYS_1_0, .int 5 tv_ARRAYS_1_1] nv_ARRAYS_1, slv_ARRAYS_1⟩)
    {dv_ARRAYS_0 : Addr} {odv_ARRAYS_0 : Option Addr} {slv_ARRAYS_0 : Array (Option Value)} {nv_ARRAYS_0 : Nat} {tv_ARRAYS_0_0 : Tok} (xv_ARRAYS_0 : PySem.W.nsIn K d_ARRAYS "put" = some (some (.ref dv_ARRAYS_0)))
    (xu_ARRAYS_0 : K.lookup dv_ARRAYS_0 = some ⟨.type "tuple", odv_ARRAYS_0, .seq #[.int 2 tv_ARRAYS_0_0] nv_ARRAYS_0, slv_ARRAYS_0⟩)
    {d_ITEMS : Addr} {es_ITEMS : Array DictEntry} {n_ITEMS : Nat} (x0_ITEMS : PySem.W.nsIn K mainGlobals "ITEMS" = some (some (.ref d_ITEMS)))
    (xd_ITEMS : K.lookup d_ITEMS = some ⟨.type "dict", none, .dict es_ITEMS n_ITEMS, #[]⟩)
    (xl_ITEMS : es_ITEMS.toList.map He.keyOf = He.keysIn w.params ["put", "move", "sum"])
    (xw_ITEMS : (d_ITEMS == sysModules) = false)
    {tv_ITEMS_2 : Tok} (xv_ITEMS_2 : PySem.W.nsIn K d_ITEMS "sum" = some (some (.int 11 tv_ITEMS_2)))
    {tv_ITEMS_1 : Tok} (xv_ITEMS_1 : PySem.W.nsIn K d_ITEMS "move" = some (some (.int 9 tv_ITEMS_1)))
    {tv_ITEMS_0 : Tok} (xv_ITEMS_0 : PySem.W.nsIn K d_ITEMS "put" = some (some (.int 7 tv_ITEMS_0)))
    : ∃ fd : FuncData, (∀ (s : Shared) (v : Value), BindsTo s fd ⟨[v], []⟩ [("script", v)]) ∧ ∀ base : Heap, K.In base → base.Ns mainGlobals mg → FnG l.prog w K mg base 8 fa fd ["script"] (LSp K spLawD) := by
  have e := hfa.symm.trans (PySem.W.mg_of X G a46)
  cases e
  let A : Cls := ⟨C_InvalidAccess, C_InvalidBarrier, C_InvalidGuard, C_InvalidLanes, C_InvalidNumber, C_InvalidStatement, C_Doing, C_Kernel, d_ACCESSES, d_ARRAYS, d_ITEMS⟩
  have T : Glob w K mg A fI := ⟨{ gC := PySem.W.mg_of X G x0_InvalidAccess, cls := ⟨nm_InvalidAccess, q_InvalidAccess, N_InvalidAccess, bs_InvalidAccess, _, sn_InvalidAccess, sub_InvalidAccess, ab_InvalidAccess, col_InvalidAccess, dd_InvalidAccess, m0_InvalidAccess, m1_InvalidAccess, m2_InvalidAccess, m3_InvalidAccess, m5_InvalidAccess, x1_InvalidAccess, rfl⟩, sa := x2_InvalidAccess, ga := x3_InvalidAccess, gg := x4_InvalidAccess, noN := x5_InvalidAccess, iC := x6_InvalidAccess, tC := tI, kC := x7_InvalidAccess, exC := x8_InvalidAccess, tyC := x9_InvalidAccess, hdC := xa_InvalidAccess, te := exm_self x8_InvalidAccess xb_InvalidAccess x9_InvalidAccess xc_InvalidAccess, fn := ⟨_, _, _, _, _, _, _, _, _, _, _, _, _, _, lI, cI⟩ },
    { gC := PySem.W.mg_of X G x0_InvalidBarrier, cls := ⟨nm_InvalidBarrier, q_InvalidBarrier, N_InvalidBarrier, bs_InvalidBarrier, _, sn_InvalidBarrier, sub_InvalidBarrier, ab_InvalidBarrier, col_InvalidBarrier, dd_InvalidBarrier, m0_InvalidBarrier, m1_InvalidBarrier, m2_InvalidBarrier, m3_InvalidBarrier, m5_InvalidBarrier, x1_InvalidBarrier, rfl⟩, sa := x2_InvalidBarrier, ga := x3_InvalidBarrier, gg := x4_InvalidBarrier, noN := x5_InvalidBarrier, iC := x6_InvalidBarrier, tC := tI, kC := x7_InvalidBarrier, exC := x8_InvalidBarrier, tyC := x9_InvalidBarrier, hdC := xa_InvalidBarrier, te := exm_self x8_InvalidBarrier xb_InvalidBarrier x9_InvalidBarrier xc_InvalidBarrier, fn := ⟨_, _, _, _, _, _, _, _, _, _, _, _, _, _, lI, cI⟩ },
    { gC := PySem.W.mg_of X G x0_InvalidGuard, cls := ⟨nm_InvalidGuard, q_InvalidGuard, N_InvalidGuard, bs_InvalidGuard, _, sn_InvalidGuard, sub_InvalidGuard, ab_InvalidGuard, col_InvalidGuard, dd_InvalidGuard, m0_InvalidGuard, m1_InvalidGuard, m2_InvalidGuard, m3_InvalidGuard, m5_InvalidGuard, x1_InvalidGuard, rfl⟩, sa := x2_InvalidGuard, ga := x3_InvalidGuard, gg := x4_InvalidGuard, noN := x5_InvalidGuard, iC := x6_InvalidGuard, tC := tI, kC := x7_InvalidGuard, exC := x8_InvalidGuard, tyC := x9_InvalidGuard, hdC := xa_InvalidGuard, te := exm_self x8_InvalidGuard xb_InvalidGuard x9_InvalidGuard xc_InvalidGuard, fn := ⟨_, _, _, _, _, _, _, _, _, _, _, _, _, _, lI, cI⟩ },
    { gC := PySem.W.mg_of X G x0_InvalidLanes, cls := ⟨nm_InvalidLanes, q_InvalidLanes, N_InvalidLanes, bs_InvalidLanes, _, sn_InvalidLanes, sub_InvalidLanes, ab_InvalidLanes, col_InvalidLanes, dd_InvalidLanes, m0_InvalidLanes, m1_InvalidLanes, m2_InvalidLanes, m3_InvalidLanes, m5_InvalidLanes, x1_InvalidLanes, rfl⟩, sa := x2_InvalidLanes, ga := x3_InvalidLanes, gg := x4_InvalidLanes, noN := x5_InvalidLanes, iC := x6_InvalidLanes, tC := tI, kC := x7_InvalidLanes, exC := x8_InvalidLanes, tyC := x9_InvalidLanes, hdC := xa_InvalidLanes, te := exm_self x8_InvalidLanes xb_InvalidLanes x9_InvalidLanes xc_InvalidLanes, fn := ⟨_, _, _, _, _, _, _, _, _, _, _, _, _, _, lI, cI⟩ },
    { gC := PySem.W.mg_of X G x0_InvalidNumber, cls := ⟨nm_InvalidNumber, q_InvalidNumber, N_InvalidNumber, bs_InvalidNumber, _, sn_InvalidNumber, sub_InvalidNumber, ab_InvalidNumber, col_InvalidNumber, dd_InvalidNumber, m0_InvalidNumber, m1_InvalidNumber, m2_InvalidNumber, m3_InvalidNumber, m5_InvalidNumber, x1_InvalidNumber, rfl⟩, sa := x2_InvalidNumber, ga := x3_InvalidNumber, gg := x4_InvalidNumber, noN := x5_InvalidNumber, iC := x6_InvalidNumber, tC := tI, kC := x7_InvalidNumber, exC := x8_InvalidNumber, tyC := x9_InvalidNumber, hdC := xa_InvalidNumber, te := exm_self x8_InvalidNumber xb_InvalidNumber x9_InvalidNumber xc_InvalidNumber, fn := ⟨_, _, _, _, _, _, _, _, _, _, _, _, _, _, lI, cI⟩ },
    { gC := PySem.W.mg_of X G x0_InvalidStatement, cls := ⟨nm_InvalidStatement, q_InvalidStatement, N_InvalidStatement, bs_InvalidStatement, _, sn_InvalidStatement, sub_InvalidStatement, ab_InvalidStatement, col_InvalidStatement, dd_InvalidStatement, m0_InvalidStatement, m1_InvalidStatement, m2_InvalidStatement, m3_InvalidStatement, m5_InvalidStatement, x1_InvalidStatement, rfl⟩, sa := x2_InvalidStatement, ga := x3_InvalidStatement, gg := x4_InvalidStatement, noN := x5_InvalidStatement, iC := x6_InvalidStatement, tC := tI, kC := x7_InvalidStatement, exC := x8_InvalidStatement, tyC := x9_InvalidStatement, hdC := xa_InvalidStatement, te := exm_self x8_InvalidStatement xb_InvalidStatement x9_InvalidStatement xc_InvalidStatement, fn := ⟨_, _, _, _, _, _, _, _, _, _, _, _, _, _, lI, cI⟩ },
    PySem.W.mg_none_of X G z_abs,
    PySem.W.mg_none_of X G z_all,
    PySem.W.mg_none_of X G z_enumerate,
    PySem.W.mg_of X G z_gcd,
    PySem.W.mg_none_of X G z_len,
    PySem.W.mg_none_of X G z_list,
    PySem.W.mg_none_of X G z_max,
    PySem.W.mg_none_of X G z_min,
    PySem.W.mg_none_of X G z_range,
    PySem.W.mg_none_of X G z_set,
    PySem.W.mg_none_of X G z_sorted,
    PySem.W.mg_none_of X G z_sum,
    PySem.W.mg_none_of X G z_zip,
    ⟨t_MOST_BANKS, PySem.W.mg_of X G gc_MOST_BANKS⟩,
    ⟨t_MOST_LANES, PySem.W.mg_of X G gc_MOST_LANES⟩,
    ⟨t_WRITTEN, PySem.W.mg_of X G gc_WRITTEN⟩,
    ⟨xg_Doing, xh_Doing, xp_Doing, xs_Doing⟩,
    ⟨xg_Kernel, xh_Kernel, xp_Kernel, xs_Kernel⟩,
    xf_Doing_array,
    xf_Doing_number,
    xf_Doing_phase,
    xf_Doing_side,
    xf_Doing_writes,
    xf_Kernel__barriers,
    xf_Kernel__lanes,
    xf_Kernel__racing,
    xf_Kernel__statements,
    ⟨PySem.W.mg_of X G x0_ACCESSES, ⟨es_ACCESSES, n_ACCESSES, ⟨xd_ACCESSES, He.keysLit_of xl_ACCESSES, xw_ACCESSES⟩⟩, (hits_cons xv_ACCESSES_0 (v := .ref dv_ACCESSES_0) rfl (rep_tupI [2] xu_ACCESSES_0 (us := [.int 2 tv_ACCESSES_0_0]) (by simp) (.cons ⟨_, rfl⟩ (.nil))) (hits_cons xv_ACCESSES_1 (v := .ref dv_ACCESSES_1) rfl (rep_tupI [5, 2] xu_ACCESSES_1 (us := [.int 5 tv_ACCESSES_1_0, .int 2 tv_ACCESSES_1_1]) (by simp) (.cons ⟨_, rfl⟩ (.cons ⟨_, rfl⟩ (.nil)))) (hits_cons xv_ACCESSES_2 (v := .ref dv_ACCESSES_2) rfl (rep_tupI [5, 8, 2] xu_ACCESSES_2 (us := [.int 5 tv_ACCESSES_2_0, .int 8 tv_ACCESSES_2_1, .int 2 tv_ACCESSES_2_2]) (by simp) (.cons ⟨_, rfl⟩ (.cons ⟨_, rfl⟩ (.cons ⟨_, rfl⟩ (.nil))))) hits_nil))), misses_nil⟩,
    ⟨PySem.W.mg_of X G x0_ARRAYS, ⟨es_ARRAYS, n_ARRAYS, ⟨xd_ARRAYS, He.keysLit_of xl_ARRAYS, xw_ARRAYS⟩⟩, (hits_cons xv_ARRAYS_0 (v := .ref dv_ARRAYS_0) rfl (rep_tupI [2] xu_ARRAYS_0 (us := [.int 2 tv_ARRAYS_0_0]) (by simp) (.cons ⟨_, rfl⟩ (.nil))) (hits_cons xv_ARRAYS_1 (v := .ref dv_ARRAYS_1) rfl (rep_tupI [2, 5] xu_ARRAYS_1 (us := [.int 2 tv_ARRAYS_1_0, .int 5 tv_ARRAYS_1_1]) (by simp) (.cons ⟨_, rfl⟩ (.cons ⟨_, rfl⟩ (.nil)))) (hits_cons xv_ARRAYS_2 (v := .ref dv_ARRAYS_2) rfl (rep_tupI [2, 5, 8] xu_ARRAYS_2 (us := [.int 2 tv_ARRAYS_2_0, .int 5 tv_ARRAYS_2_1, .int 8 tv_ARRAYS_2_2]) (by simp) (.cons ⟨_, rfl⟩ (.cons ⟨_, rfl⟩ (.cons ⟨_, rfl⟩ (.nil))))) hits_nil))), misses_nil⟩,
    ⟨PySem.W.mg_of X G x0_ITEMS, ⟨es_ITEMS, n_ITEMS, ⟨xd_ITEMS, He.keysLit_of xl_ITEMS, xw_ITEMS⟩⟩, (hits_cons xv_ITEMS_0 (v := .int 7) ⟨_, rfl⟩ (fun _ _ => rfl) (hits_cons xv_ITEMS_1 (v := .int 9) ⟨_, rfl⟩ (fun _ _ => rfl) (hits_cons xv_ITEMS_2 (v := .int 11) ⟨_, rfl⟩ (fun _ _ => rfl) hits_nil))), misses_nil⟩,
    trivial⟩
  refine ⟨PySem.W.fnOf "law" "law" (defArgs s_law) (defBody s_law) (defScope s_law) .none kV46 dc46 pm46 an46 cd46 ct46, fun s v => .of_eq rfl, fun base _ _ => ?_⟩
  have h__law_bag : Fd l.prog w K mg base "_law_bag" 1 ["script"] (c__law_bag A) := dh__law_bag T (fun_mk (st := s__law_bag) l40 c40 k40) (PySem.W.mg_of X G a40)
  have h__law_draw : Fd l.prog w K mg base "_law_draw" 1 ["bag", "many"] (c__law_draw A) := dh__law_draw T (fun_mk (st := s__law_draw) l41 c41 k41) (PySem.W.mg_of X G a41)
  have h__law_far_span : Fd l.prog w K mg base "_law_far_span" 2 ["bag", "lanes"] (c__law_far_span A) := dh__law_far_span T h__law_draw (fun_mk (st := s__law_far_span) l43 c43 k43) (PySem.W.mg_of X G a43)
  have h_check_size : Fd l.prog w K mg base "check_size" 1 ["size"] (c_check_size A) := dh_check_size T (fun_mk (st := s_check_size) l36 c36 k36) (PySem.W.mg_of X G a36)
  have h_check_wave : Fd l.prog w K mg base "check_wave" 1 ["wave"] (c_check_wave A) := dh_check_wave T (fun_mk (st := s_check_wave) l10 c10 k10) (PySem.W.mg_of X G a10)
  have h_is_guard : Fd l.prog w K mg base "is_guard" 1 ["guard"] (c_is_guard A) := dh_is_guard T (fun_mk (st := s_is_guard) l0 c0 k0) (PySem.W.mg_of X G a0)
  have h_check_guard : Fd l.prog w K mg base "check_guard" 2 ["guard"] (c_check_guard A) := dh_check_guard T h_is_guard (fun_mk (st := s_check_guard) l1 c1 k1) (PySem.W.mg_of X G a1)
  have h_first_from : Fd l.prog w K mg base "first_from" 1 ["low", "step", "rest"] (c_first_from A) := dh_first_from T (fun_mk (st := s_first_from) l2 c2 k2) (PySem.W.mg_of X G a2)
  have h_count_lanes : Fd l.prog w K mg base "count_lanes" 3 ["guard"] (c_count_lanes A) := dh_count_lanes T h_check_guard h_first_from (fun_mk (st := s_count_lanes) l3 c3 k3) (PySem.W.mg_of X G a3)
  have h_nth_lane : Fd l.prog w K mg base "nth_lane" 4 ["guard", "number"] (c_nth_lane A) := dh_nth_lane T h_count_lanes h_first_from (fun_mk (st := s_nth_lane) l4 c4 k4) (PySem.W.mg_of X G a4)
  have h_sum_of_quotients : Fd l.prog w K mg base "sum_of_quotients" 1 ["many", "divisor", "factor", "start"] (c_sum_of_quotients A) := dh_sum_of_quotients T (fun_mk (st := s_sum_of_quotients) l35 c35 k35) (PySem.W.mg_of X G a35)
  have h_count_changes : Fd l.prog w K mg base "count_changes" 5 ["side", "wave", "size"] (c_count_changes A) := dh_count_changes T h_count_lanes h_nth_lane h_sum_of_quotients (fun_mk (st := s_count_changes) l38 c38 k38) (PySem.W.mg_of X G a38)
  have h_count_up_to : Fd l.prog w K mg base "count_up_to" 1 ["barriers", "statement"] (c_count_up_to A) := dh_count_up_to T (fun_mk (st := s_count_up_to) l9 c9 k9) (PySem.W.mg_of X G a9)
  have hi_Doing_0 : Im l.prog w K mg base "Doing" A.Doing 1 ["self", "number", "statement", "place", "phase"] (c_Doing___init__ A) [] := dhi_Doing_0 T (fun_mk (st := s_Doing___init__) l13 c13 k13) ⟨xm_Doing, a13, bf13, xk_Doing⟩ (PySem.W.mg_of X G x0_Doing)
  have hq_Kernel_barriers : Pp l.prog w K mg base A.Kernel "barriers" 1 ["self"] (c_Kernel_barriers A) := dhq_Kernel_barriers T (fun_mk (st := s_Kernel_barriers) l33 c33 k33) ⟨b33, bg33, bt33, _, a33⟩
  have hq_Kernel_statements : Pp l.prog w K mg base A.Kernel "statements" 1 ["self"] (c_Kernel_statements A) := dhq_Kernel_statements T (fun_mk (st := s_Kernel_statements) l32 c32 k32) ⟨b32, bg32, bt32, _, a32⟩
  have h_doing_at : Fd l.prog w K mg base "doing_at" 3 ["kernel", "number"] (c_doing_at A) := dh_doing_at T h_count_up_to hi_Doing_0 hq_Kernel_barriers hq_Kernel_statements (fun_mk (st := s_doing_at) l14 c14 k14) (PySem.W.mg_of X G a14)
  have h_waves_with_lanes : Fd l.prog w K mg base "waves_with_lanes" 5 ["guard", "wave"] (c_waves_with_lanes A) := dh_waves_with_lanes T h_count_lanes h_nth_lane (fun_mk (st := s_waves_with_lanes) l16 c16 k16) (PySem.W.mg_of X G a16)
  have h_count_lines : Fd l.prog w K mg base "count_lines" 6 ["kernel", "access", "wave", "size"] (c_count_lines A) := dh_count_lines T h_check_size h_check_wave h_count_changes h_count_lanes h_doing_at h_waves_with_lanes (fun_mk (st := s_count_lines) l39 c39 k39) (PySem.W.mg_of X G a39)
  have hm_Kernel___len__ : Mm l.prog w K mg base A.Kernel "__len__" 1 ["self"] (c_Kernel___len__ A) := dhm_Kernel___len__ T (fun_mk (st := s_Kernel___len__) l34 c34 k34) ⟨a34, bf34, k34⟩
  have h_check_statement_number : Fd l.prog w K mg base "check_statement_number" 3 ["kernel", "statement"] (c_check_statement_number A) := dh_check_statement_number T hm_Kernel___len__ (fun_mk (st := s_check_statement_number) l11 c11 k11) (PySem.W.mg_of X G a11)
  have h_count_waves : Fd l.prog w K mg base "count_waves" 6 ["kernel", "statement", "wave"] (c_count_waves A) := dh_count_waves T h_check_statement_number h_check_wave h_waves_with_lanes hq_Kernel_statements (fun_mk (st := s_count_waves) l18 c18 k18) (PySem.W.mg_of X G a18)
  have h_has_lane : Fd l.prog w K mg base "has_lane" 3 ["guard", "lane"] (c_has_lane A) := dh_has_lane T h_check_guard (fun_mk (st := s_has_lane) l5 c5 k5) (PySem.W.mg_of X G a5)
  have hq_Kernel_lanes : Pp l.prog w K mg base A.Kernel "lanes" 1 ["self"] (c_Kernel_lanes A) := dhq_Kernel_lanes T (fun_mk (st := s_Kernel_lanes) l31 c31 k31) ⟨b31, bg31, bt31, _, a31⟩
  have h_full_waves : Fd l.prog w K mg base "full_waves" 4 ["kernel", "statement", "wave"] (c_full_waves A) := dh_full_waves T h_check_statement_number h_check_wave h_count_lanes h_has_lane hq_Kernel_lanes hq_Kernel_statements (fun_mk (st := s_full_waves) l19 c19 k19) (PySem.W.mg_of X G a19)
  have h_check_banks : Fd l.prog w K mg base "check_banks" 1 ["banks"] (c_check_banks A) := dh_check_banks T (fun_mk (st := s_check_banks) l21 c21 k21) (PySem.W.mg_of X G a21)
  have h_degree_of_lanes : Fd l.prog w K mg base "degree_of_lanes" 1 ["lanes", "move", "banks"] (c_degree_of_lanes A) := dh_degree_of_lanes T (fun_mk (st := s_degree_of_lanes) l22 c22 k22) (PySem.W.mg_of X G a22)
  have h_cut : Fd l.prog w K mg base "cut" 1 ["guard", "low", "high"] (c_cut A) := dh_cut T (fun_mk (st := s_cut) l6 c6 k6) (PySem.W.mg_of X G a6)
  have h_lanes_of_wave : Fd l.prog w K mg base "lanes_of_wave" 2 ["guard", "wave", "number"] (c_lanes_of_wave A) := dh_lanes_of_wave T h_cut (fun_mk (st := s_lanes_of_wave) l15 c15 k15) (PySem.W.mg_of X G a15)
  have h_waves_by_lanes : Fd l.prog w K mg base "waves_by_lanes" 4 ["guard", "wave"] (c_waves_by_lanes A) := dh_waves_by_lanes T h_count_lanes h_lanes_of_wave (fun_mk (st := s_waves_by_lanes) l17 c17 k17) (PySem.W.mg_of X G a17)
  have h_degrees : Fd l.prog w K mg base "degrees" 5 ["kernel", "access", "wave", "banks"] (c_degrees A) := dh_degrees T h_check_banks h_check_wave h_degree_of_lanes h_doing_at h_waves_by_lanes (fun_mk (st := s_degrees) l23 c23 k23) (PySem.W.mg_of X G a23)
  have h_total_degree : Fd l.prog w K mg base "total_degree" 6 ["kernel", "access", "wave", "banks"] (c_total_degree A) := dh_total_degree T h_degrees (fun_mk (st := s_total_degree) l25 c25 k25) (PySem.W.mg_of X G a25)
  have h__law_sums : Fd l.prog w K mg base "_law_sums" 7 ["made", "band", "size", "banks"] (c__law_sums A) := dh__law_sums T h_count_lines h_count_waves h_full_waves h_total_degree (fun_mk (st := s__law_sums) l45 c45 k45) (PySem.W.mg_of X G a45)
  have h__law_in : Fd l.prog w K mg base "_law_in" 1 ["span", "lane"] (c__law_in A) := dh__law_in T (fun_mk (st := s__law_in) l42 c42 k42) (PySem.W.mg_of X G a42)
  have h_check_number_of_wave : Fd l.prog w K mg base "check_number_of_wave" 3 ["kernel", "wave", "number"] (c_check_number_of_wave A) := dh_check_number_of_wave T hq_Kernel_lanes (fun_mk (st := s_check_number_of_wave) l12 c12 k12) (PySem.W.mg_of X G a12)
  have h_degree_of_wave : Fd l.prog w K mg base "degree_of_wave" 4 ["kernel", "access", "wave", "banks", "number"] (c_degree_of_wave A) := dh_degree_of_wave T h_check_banks h_check_number_of_wave h_check_wave h_count_lanes h_degree_of_lanes h_doing_at h_lanes_of_wave (fun_mk (st := s_degree_of_wave) l24 c24 k24) (PySem.W.mg_of X G a24)
  have h_greatest_degree : Fd l.prog w K mg base "greatest_degree" 6 ["kernel", "access", "wave", "banks"] (c_greatest_degree A) := dh_greatest_degree T h_degrees (fun_mk (st := s_greatest_degree) l26 c26 k26) (PySem.W.mg_of X G a26)
  have h_lanes_in_wave : Fd l.prog w K mg base "lanes_in_wave" 4 ["kernel", "statement", "wave", "number"] (c_lanes_in_wave A) := dh_lanes_in_wave T h_check_number_of_wave h_check_statement_number h_check_wave h_count_lanes h_lanes_of_wave hq_Kernel_statements (fun_mk (st := s_lanes_in_wave) l20 c20 k20) (PySem.W.mg_of X G a20)
  have h_lines_of_wave : Fd l.prog w K mg base "lines_of_wave" 5 ["kernel", "access", "wave", "size", "number"] (c_lines_of_wave A) := dh_lines_of_wave T h_check_number_of_wave h_check_size h_check_wave h_count_lanes h_doing_at h_lanes_of_wave h_nth_lane (fun_mk (st := s_lines_of_wave) l37 c37 k37) (PySem.W.mg_of X G a37)
  have h__law_wave_right : Fd l.prog w K mg base "_law_wave_right" 7 ["made", "line", "band", "size", "banks", "number"] (c__law_wave_right A) := dh__law_wave_right T h__law_in h_degree_of_wave h_greatest_degree h_lanes_in_wave h_lines_of_wave hq_Kernel_lanes (fun_mk (st := s__law_wave_right) l44 c44 k44) (PySem.W.mg_of X G a44)
  have h_check_barriers : Fd l.prog w K mg base "check_barriers" 1 ["barriers", "many"] (c_check_barriers A) := dh_check_barriers T (fun_mk (st := s_check_barriers) l29 c29 k29) (PySem.W.mg_of X G a29)
  have h_check_lanes : Fd l.prog w K mg base "check_lanes" 1 ["lanes"] (c_check_lanes A) := dh_check_lanes T (fun_mk (st := s_check_lanes) l27 c27 k27) (PySem.W.mg_of X G a27)
  have h_is_array_name : Fd l.prog w K mg base "is_array_name" 1 ["name"] (c_is_array_name A) := dh_is_array_name T (fun_mk (st := s_is_array_name) l7 c7 k7) (PySem.W.mg_of X G a7)
  have h_is_statement : Fd l.prog w K mg base "is_statement" 2 ["statement", "lanes"] (c_is_statement A) := dh_is_statement T h_is_array_name h_is_guard (fun_mk (st := s_is_statement) l8 c8 k8) (PySem.W.mg_of X G a8)
  have h_check_statement : Fd l.prog w K mg base "check_statement" 3 ["statement", "number", "lanes"] (c_check_statement A) := dh_check_statement T h_is_statement (fun_mk (st := s_check_statement) l28 c28 k28) (PySem.W.mg_of X G a28)
  have hi_Kernel_1 : Im l.prog w K mg base "Kernel" A.Kernel 4 ["self", "lanes", "statements", "barriers"] (c_Kernel___init__ A) [.tup []] := dhi_Kernel_1 T h_check_barriers h_check_lanes h_check_statement (funD_mk (st := s_Kernel___init__) l30 c30 k30 lT30 (v := .ref E30) rfl) ⟨xm_Kernel, a30, bf30, xk_Kernel⟩ (PySem.W.mg_of X G x0_Kernel) (rep_tup0 lE30)
  exact fd_lawG T h__law_bag h__law_draw h__law_far_span h__law_sums h__law_wave_right h_count_lanes h_count_lines hi_Kernel_1 (fun_mk (st := s_law) l46 c46 k46)
theorem walk {l : PySem.W.OpenLaw} {q : Program} {loose : List Str} {XP : (Str → Option Value) → Heap → Prop} {YP : World → Heap → Prop} {d : DefRec} {K : Params → PySem.W.Frag} (hn : l.most = some 63) (hdf : d.params.defaults = []) (hY : ∀ (w : World) (h : Heap), YP w h → (K w.params).In h)
    (F : ∀ (w : World) (mg : Str → Option Value) (fa : Addr) (h : Heap), (K w.params).In h → h.Ns mainGlobals mg → mg d.name = some (.ref fa) →
      ∃ fd : FuncData, (∀ (s : Shared) (u : Value), BindsTo s fd ⟨[u], []⟩ [("script", u)]) ∧ ∀ base : Heap, (K w.params).In base → base.Ns mainGlobals mg → FnG l.prog w (K w.params) mg base 8 fa fd ["script"] (LSp (K w.params) spLawD)) :
    PySem.W.WalkO q loose XP YP l.row.toRowW d [] (fun f vs => PySem.call f vs) := walkD (k := 8) (x := "script") hn hdf ⟨rfl, by decide, by decide⟩ hY F
end Law
open PySem PySem.W PyProof.Rows
set_option maxRecDepth 100000 in
set_option maxHeartbeats 0 in
theorem PySem.Challenge.cw_stridelanes_k76_whole_far_lines_and_bank_holds : PySem.Challenge.rw_stridelanes_k76_whole_far_lines_and_bank.Holds := by
  w_on; o_law; k_head; (case hw => w_witness2)
  k_fill
  refine Law.walk (l := PySem.Challenge.rw_stridelanes_k76_whole_far_lines_and_bank) rfl rfl (fun w h Y => PySem.W.kIn_of Y) ?F
  case F =>
    intro w mg fa h KX G hmg
    refine' Law.all_mk KX G hmg ?x0_Doing ?xg_Doing ?xh_Doing ?xp_Doing ?xs_Doing ?xm_Doing ?xk_Doing ?x0_Kernel ?xg_Kernel ?xh_Kernel ?xp_Kernel ?xs_Kernel ?xm_Kernel ?xk_Kernel ?xf_Doing_array ?xf_Doing_number ?xf_Doing_phase ?xf_Doing_side ?xf_Doing_writes ?xf_Kernel__barriers ?xf_Kernel__lanes ?xf_Kernel__racing ?xf_Kernel__statements ?a0 ?l0 ?c0 ?k0 ?a1 ?l1 ?c1 ?k1 ?a2 ?l2 ?c2 ?k2 ?a3 ?l3 ?c3 ?k3 ?a4 ?l4 ?c4 ?k4 ?a5 ?l5 ?c5 ?k5 ?a6 ?l6 ?c6 ?k6 ?a7 ?l7 ?c7 ?k7 ?a8 ?l8 ?c8 ?k8 ?a9 ?l9 ?c9 ?k9 ?a10 ?l10 ?c10 ?k10 ?a11 ?l11 ?c11 ?k11 ?a12 ?l12 ?c12 ?k12 ?a13 ?bf13 ?l13 ?c13 ?k13 ?a14 ?l14 ?c14 ?k14 ?a15 ?l15 ?c15 ?k15 ?a16 ?l16 ?c16 ?k16 ?a17 ?l17 ?c17 ?k17 ?a18 ?l18 ?c18 ?k18 ?a19 ?l19 ?c19 ?k19 ?a20 ?l20 ?c20 ?k20 ?a21 ?l21 ?c21 ?k21 ?a22 ?l22 ?c22 ?k22 ?a23 ?l23 ?c23 ?k23 ?a24 ?l24 ?c24 ?k24 ?a25 ?l25 ?c25 ?k25 ?a26 ?l26 ?c26 ?k26 ?a27 ?l27 ?c27 ?k27 ?a28 ?l28 ?c28 ?k28 ?a29 ?l29 ?c29 ?k29 ?a30 ?bf30 ?l30 ?c30 ?k30 ?lT30 ?lE30 ?b31 ?a31 ?bg31 ?bt31 ?l31 ?c31 ?k31 ?b32 ?a32 ?bg32 ?bt32 ?l32 ?c32 ?k32 ?b33 ?a33 ?bg33 ?bt33 ?l33 ?c33 ?k33 ?a34 ?bf34 ?l34 ?c34 ?k34 ?a35 ?l35 ?c35 ?k35 ?a36 ?l36 ?c36 ?k36 ?a37 ?l37 ?c37 ?k37 ?a38 ?l38 ?c38 ?k38 ?a39 ?l39 ?c39 ?k39 ?a40 ?l40 ?c40 ?k40 ?a41 ?l41 ?c41 ?k41 ?a42 ?l42 ?c42 ?k42 ?a43 ?l43 ?c43 ?k43 ?a44 ?l44 ?c44 ?k44 ?a45 ?l45 ?c45 ?k45 ?a46 ?l46 ?c46 ?k46 ?x0_InvalidAccess ?x1_InvalidAccess ?x2_InvalidAccess ?x3_InvalidAccess ?x4_InvalidAccess ?x5_InvalidAccess ?x7_InvalidAccess ?x8_InvalidAccess ?x9_InvalidAccess ?xa_InvalidAccess ?xb_InvalidAccess ?xc_InvalidAccess ?x6_InvalidAccess ?x0_InvalidBarrier ?x1_InvalidBarrier ?x2_InvalidBarrier ?x3_InvalidBarrier ?x4_InvalidBarrier ?x5_InvalidBarrier ?x7_InvalidBarrier ?x8_InvalidBarrier ?x9_InvalidBarrier ?xa_InvalidBarrier ?xb_InvalidBarrier ?xc_InvalidBarrier ?x6_InvalidBarrier ?x0_InvalidGuard ?x1_InvalidGuard ?x2_InvalidGuard ?x3_InvalidGuard ?x4_InvalidGuard ?x5_InvalidGuard ?x7_InvalidGuard ?x8_InvalidGuard ?x9_InvalidGuard ?xa_InvalidGuard ?xb_InvalidGuard ?xc_InvalidGuard ?x6_InvalidGuard ?x0_InvalidLanes ?x1_InvalidLanes ?x2_InvalidLanes ?x3_InvalidLanes ?x4_InvalidLanes ?x5_InvalidLanes ?x7_InvalidLanes ?x8_InvalidLanes ?x9_InvalidLanes ?xa_InvalidLanes ?xb_InvalidLanes ?xc_InvalidLanes ?x6_InvalidLanes ?x0_InvalidNumber ?x1_InvalidNumber ?x2_InvalidNumber ?x3_InvalidNumber ?x4_InvalidNumber ?x5_InvalidNumber ?x7_InvalidNumber ?x8_InvalidNumber ?x9_InvalidNumber ?xa_InvalidNumber ?xb_InvalidNumber ?xc_InvalidNumber ?x6_InvalidNumber ?x0_InvalidStatement ?x1_InvalidStatement ?x2_InvalidStatement ?x3_InvalidStatement ?x4_InvalidStatement ?x5_InvalidStatement ?x7_InvalidStatement ?x8_InvalidStatement ?x9_InvalidStatement ?xa_InvalidStatement ?xb_InvalidStatement ?xc_InvalidStatement ?x6_InvalidStatement ?lI ?cI ?tI ?z_abs ?z_all ?z_enumerate ?z_gcd ?z_len ?z_list ?z_max ?z_min ?z_range ?z_set ?z_sorted ?z_sum ?z_zip ?gc_MOST_BANKS ?gc_MOST_LANES ?gc_WRITTEN ?x0_ACCESSES ?xd_ACCESSES ?xl_ACCESSES ?xw_ACCESSES ?xv_ACCESSES_2 ?xu_ACCESSES_2 ?xv_ACCESSES_1 ?xu_ACCESSES_1 ?xv_ACCESSES_0 ?xu_ACCESSES_0 ?x0_ARRAYS ?xd_ARRAYS ?xl_ARRAYS ?xw_ARRAYS ?xv_ARRAYS_2 ?xu_ARRAYS_2 ?xv_ARRAYS_1 ?xu_ARRAYS_1 ?xv_ARRAYS_0 ?xu_ARRAYS_0 ?x0_ITEMS ?xd_ITEMS ?xl_ITEMS ?xw_ITEMS ?xv_ITEMS_2 ?xv_ITEMS_1 ?xv_ITEMS_0
    (case x0_Doing => k_is)
    (case x0_Kernel => k_is)
    (case a0 => k_is)
    (case a1 => k_is)
    (case a2 => k_is)
    (case a3 => k_is)
    (case a4 => k_is)
    (case a5 => k_is)
    (case a6 => k_is)
    (case a7 => k_is)
    (case a8 => k_is)
    (case a9 => k_is)
    (case a10 => k_is)
    (case a11 => k_is)
    (case a12 => k_is)
    (case a14 => k_is)
    (case a15 => k_is)
    (case a16 => k_is)
    (case a17 => k_is)
    (case a18 => k_is)
    (case a19 => k_is)
    (case a20 => k_is)
    (case a21 => k_is)
    (case a22 => k_is)
    (case a23 => k_is)
    (case a24 => k_is)
    (case a25 => k_is)
    (case a26 => k_is)
    (case a27 => k_is)
    (case a28 => k_is)
    (case a29 => k_is)
    (case a35 => k_is)
    (case a36 => k_is)
    (case a37 => k_is)
    (case a38 => k_is)
    (case a39 => k_is)
    (case a40 => k_is)
    (case a41 => k_is)
    (case a42 => k_is)
    (case a43 => k_is)
    (case a44 => k_is)
    (case a45 => k_is)
    (case a46 => k_is)
    (case x0_InvalidAccess => k_is)
    (case x0_InvalidBarrier => k_is)
    (case x0_InvalidGuard => k_is)
    (case x0_InvalidLanes => k_is)
    (case x0_InvalidNumber => k_is)
    (case x0_InvalidStatement => k_is)
    (case x0_ACCESSES => k_is)
    (case x0_ARRAYS => k_is)
    (case x0_ITEMS => k_is)
    (case a13 => k_is)
    (case a30 => k_is)
    (case b31 => k_is)
    (case b32 => k_is)
    (case b33 => k_is)
    (case a34 => k_is)
    (case x6_InvalidAccess => k_is)
    (case x6_InvalidBarrier => k_is)
    (case x6_InvalidGuard => k_is)
    (case x6_InvalidLanes => k_is)
    (case x6_InvalidNumber => k_is)
    (case x6_InvalidStatement => k_is)
    (case a31 => k_is)
    (case a32 => k_is)
    (case a33 => k_is)
    (case xd_ACCESSES => k_is)
    (case xv_ACCESSES_2 => k_is)
    (case xv_ACCESSES_1 => k_is)
    (case xv_ACCESSES_0 => k_is)
    (case xd_ARRAYS => k_is)
    (case xv_ARRAYS_2 => k_is)
    (case xv_ARRAYS_1 => k_is)
    (case xv_ARRAYS_0 => k_is)
    (case xd_ITEMS => k_is)
    (case xg_Doing => k_is)
    (case xh_Doing => k_is)
    (case xp_Doing => k_is)
    (case xs_Doing => k_is)
    (case xm_Doing => k_is)
    (case xk_Doing => k_is)
    (case xg_Kernel => k_is)
    (case xh_Kernel => k_is)
    (case xp_Kernel => k_is)
    (case xs_Kernel => k_is)
    (case xm_Kernel => k_is)
    (case xk_Kernel => k_is)
    (case xf_Doing_array => k_is)
    (case xf_Doing_number => k_is)
    (case xf_Doing_phase => k_is)
    (case xf_Doing_side => k_is)
    (case xf_Doing_writes => k_is)
    (case xf_Kernel__barriers => k_is)
    (case xf_Kernel__lanes => k_is)
    (case xf_Kernel__racing => k_is)
    (case xf_Kernel__statements => k_is)
    (case l0 => k_is)
    (case c0 => k_is)
    (case k0 => k_is)
    (case l1 => k_is)
    (case c1 => k_is)
    (case k1 => k_is)
    (case l2 => k_is)
    (case c2 => k_is)
    (case k2 => k_is)
    (case l3 => k_is)
    (case c3 => k_is)
    (case k3 => k_is)
    (case l4 => k_is)
    (case c4 => k_is)
    (case k4 => k_is)
    (case l5 => k_is)
    (case c5 => k_is)
    (case k5 => k_is)
    (case l6 => k_is)
    (case c6 => k_is)
    (case k6 => k_is)
    (case l7 => k_is)
    (case c7 => k_is)
    (case k7 => k_is)
    (case l8 => k_is)
    (case c8 => k_is)
    (case k8 => k_is)
    (case l9 => k_is)
    (case c9 => k_is)
    (case k9 => k_is)
    (case l10 => k_is)
    (case c10 => k_is)
    (case k10 => k_is)
    (case l11 => k_is)
    (case c11 => k_is)
    (case k11 => k_is)
    (case l12 => k_is)
    (case c12 => k_is)
    (case k12 => k_is)
    (case bf13 => k_is)
    (case l13 => k_is)
    (case c13 => k_is)
    (case k13 => k_is)
    (case l14 => k_is)
    (case c14 => k_is)
    (case k14 => k_is)
    (case l15 => k_is)
    (case c15 => k_is)
    (case k15 => k_is)
    (case l16 => k_is)
    (case c16 => k_is)
    (case k16 => k_is)
    (case l17 => k_is)
    (case c17 => k_is)
    (case k17 => k_is)
    (case l18 => k_is)
    (case c18 => k_is)
    (case k18 => k_is)
    (case l19 => k_is)
    (case c19 => k_is)
    (case k19 => k_is)
    (case l20 => k_is)
    (case c20 => k_is)
    (case k20 => k_is)
    (case l21 => k_is)
    (case c21 => k_is)
    (case k21 => k_is)
    (case l22 => k_is)
    (case c22 => k_is)
    (case k22 => k_is)
    (case l23 => k_is)
    (case c23 => k_is)
    (case k23 => k_is)
    (case l24 => k_is)
    (case c24 => k_is)
    (case k24 => k_is)
    (case l25 => k_is)
    (case c25 => k_is)
    (case k25 => k_is)
    (case l26 => k_is)
    (case c26 => k_is)
    (case k26 => k_is)
    (case l27 => k_is)
    (case c27 => k_is)
    (case k27 => k_is)
    (case l28 => k_is)
    (case c28 => k_is)
    (case k28 => k_is)
    (case l29 => k_is)
    (case c29 => k_is)
    (case k29 => k_is)
    (case bf30 => k_is)
    (case l30 => k_is)
    (case c30 => k_is)
    (case k30 => k_is)
    (case lT30 => k_is)
    (case lE30 => k_is)
    (case bg31 => k_is)
    (case bt31 => k_is)
    (case l31 => k_is)
    (case c31 => k_is)
    (case k31 => k_is)
    (case bg32 => k_is)
    (case bt32 => k_is)
    (case l32 => k_is)
    (case c32 => k_is)
    (case k32 => k_is)
    (case bg33 => k_is)
    (case bt33 => k_is)
    (case l33 => k_is)
    (case c33 => k_is)
    (case k33 => k_is)
    (case bf34 => k_is)
    (case l34 => k_is)
    (case c34 => k_is)
    (case k34 => k_is)
    (case l35 => k_is)
    (case c35 => k_is)
    (case k35 => k_is)
    (case l36 => k_is)
    (case c36 => k_is)
    (case k36 => k_is)
    (case l37 => k_is)
    (case c37 => k_is)
    (case k37 => k_is)
    (case l38 => k_is)
    (case c38 => k_is)
    (case k38 => k_is)
    (case l39 => k_is)
    (case c39 => k_is)
    (case k39 => k_is)
    (case l40 => k_is)
    (case c40 => k_is)
    (case k40 => k_is)
    (case l41 => k_is)
    (case c41 => k_is)
    (case k41 => k_is)
    (case l42 => k_is)
    (case c42 => k_is)
    (case k42 => k_is)
    (case l43 => k_is)
    (case c43 => k_is)
    (case k43 => k_is)
    (case l44 => k_is)
    (case c44 => k_is)
    (case k44 => k_is)
    (case l45 => k_is)
    (case c45 => k_is)
    (case k45 => k_is)
    (case l46 => k_is)
    (case c46 => k_is)
    (case k46 => k_is)
    (case x1_InvalidAccess => k_is)
    (case x2_InvalidAccess => k_is)
    (case x3_InvalidAccess => k_is)
    (case x4_InvalidAccess => k_is)
    (case x5_InvalidAccess => k_is)
    (case x7_InvalidAccess => k_is)
    (case x8_InvalidAccess => k_is)
    (case x9_InvalidAccess => k_is)
    (case xa_InvalidAccess => k_is)
    (case xb_InvalidAccess => k_is)
    (case xc_InvalidAccess => k_is)
    (case x1_InvalidBarrier => k_is)
    (case x2_InvalidBarrier => k_is)
    (case x3_InvalidBarrier => k_is)
    (case x4_InvalidBarrier => k_is)
    (case x5_InvalidBarrier => k_is)
    (case x7_InvalidBarrier => k_is)
    (case x8_InvalidBarrier => k_is)
    (case x9_InvalidBarrier => k_is)
    (case xa_InvalidBarrier => k_is)
    (case xb_InvalidBarrier => k_is)
    (case xc_InvalidBarrier => k_is)
    (case x1_InvalidGuard => k_is)
    (case x2_InvalidGuard => k_is)
    (case x3_InvalidGuard => k_is)
    (case x4_InvalidGuard => k_is)
    (case x5_InvalidGuard => k_is)
    (case x7_InvalidGuard => k_is)
    (case x8_InvalidGuard => k_is)
    (case x9_InvalidGuard => k_is)
    (case xa_InvalidGuard => k_is)
    (case xb_InvalidGuard => k_is)
    (case xc_InvalidGuard => k_is)
    (case x1_InvalidLanes => k_is)
    (case x2_InvalidLanes => k_is)
    (case x3_InvalidLanes => k_is)
    (case x4_InvalidLanes => k_is)
    (case x5_InvalidLanes => k_is)
    (case x7_InvalidLanes => k_is)
    (case x8_InvalidLanes => k_is)
    (case x9_InvalidLanes => k_is)
    (case xa_InvalidLanes => k_is)
    (case xb_InvalidLanes => k_is)
    (case xc_InvalidLanes => k_is)
    (case x1_InvalidNumber => k_is)
    (case x2_InvalidNumber => k_is)
    (case x3_InvalidNumber => k_is)
    (case x4_InvalidNumber => k_is)
    (case x5_InvalidNumber => k_is)
    (case x7_InvalidNumber => k_is)
    (case x8_InvalidNumber => k_is)
    (case x9_InvalidNumber => k_is)
    (case xa_InvalidNumber => k_is)
    (case xb_InvalidNumber => k_is)
    (case xc_InvalidNumber => k_is)
    (case x1_InvalidStatement => k_is)
    (case x2_InvalidStatement => k_is)
    (case x3_InvalidStatement => k_is)
    (case x4_InvalidStatement => k_is)
    (case x5_InvalidStatement => k_is)
    (case x7_InvalidStatement => k_is)
    (case x8_InvalidStatement => k_is)
    (case x9_InvalidStatement => k_is)
    (case xa_InvalidStatement => k_is)
    (case xb_InvalidStatement => k_is)
    (case xc_InvalidStatement => k_is)
    (case lI => k_is)
    (case cI => k_is)
    (case tI => k_is)
    (case z_abs => k_is)
    (case z_all => k_is)
    (case z_enumerate => k_is)
    (case z_gcd => k_is)
    (case z_len => k_is)
    (case z_list => k_is)
    (case z_max => k_is)
    (case z_min => k_is)
    (case z_range => k_is)
    (case z_set => k_is)
    (case z_sorted => k_is)
    (case z_sum => k_is)
    (case z_zip => k_is)
    (case gc_MOST_BANKS => k_is)
    (case gc_MOST_LANES => k_is)
    (case gc_WRITTEN => k_is)
    (case xu_ACCESSES_2 => k_is)
    (case xu_ACCESSES_1 => k_is)
    (case xu_ACCESSES_0 => k_is)
    (case xu_ARRAYS_2 => k_is)
    (case xu_ARRAYS_1 => k_is)
    (case xu_ARRAYS_0 => k_is)
    (case xv_ITEMS_2 => k_is)
    (case xv_ITEMS_1 => k_is)
    (case xv_ITEMS_0 => k_is)
    (case xl_ACCESSES => first | rfl | decide +kernel)
    (case xw_ACCESSES => first | rfl | decide +kernel)
    (case xl_ARRAYS => first | rfl | decide +kernel)
    (case xw_ARRAYS => first | rfl | decide +kernel)
    (case xl_ITEMS => first | rfl | decide +kernel)
    (case xw_ITEMS => first | rfl | decide +kernel)

