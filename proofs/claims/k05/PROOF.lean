import PyProof.Rows.All
import Wide.All
import OpenK.AllK
import Wide.FinOn
import HandS.Base
import HandS.Call
import HandS.More
import HandS.Exc
import HandS.Defaults
import HandS.Words
import HandS.Head0
import HandS.Head1
import HandS.Head2
import HandS.Head3
import HandS.HeadHook1
import HandS.HeadHook2
import HandS.HeadHook3
import HandS.List
import HandS.WideBits
import HandS.Flow
import HandS.Style
import HandS.Comp
import HandS.NoneIn
import HandS.Iter
import HandS.ExcCtx
import HandS.HotCalls
import HandS.Ends
import HandS.ForExc
import HandS.Gcd
import HandS.Deep
import HandS.Conv
import HandS.Property
import HandS.Zip
import PyProof.LongRange
import PyProof.EnumMake
import PyProof.Draws
import HandS.Text
import PyProof.ListRange
import HandS.SortInts
import HandS.Dict
import HandS.ExcValue
import KE.DataMinMax
import PyProof.CollectIter
import HandS.IsInst
import HandS.Codes
import PyProof.InstNe
import HandS.SetBool
import HandS.Strs
import HandS.SetFor
import HandS.ForDict
import HandS.ExcIs
import KE.KExcIs
import HandS.MapJoin
import HandS.Hot
import KE.DataCmp
import PySem.Challenge.RW_stridelanes_k05_kernels_made
set_option Elab.async false
set_option linter.all false
set_option maxRecDepth 100000
set_option maxHeartbeats 2000000
/-! DHD0: what the top has left, read off one run in the kernel: facts that are decided over the reached part, defs by their addresses, tables -/
namespace DL
open PySem L2 PySem.Spec PyProof.Rows
/-! ### addresses -/
/-- the getter behind a property -/
def getterOf (K : PySem.W.Frag) (p : Addr) : Addr := match PySem.W.recIn K p "property" with
  | some (.ref f :: _) => f
  | _ => 0
/-- the object that the dict at d holds under a key -/
def valAt (K : PySem.W.Frag) (d : Addr) (k : Str) : Addr := match PySem.W.nsIn K d k with
  | some (some (.ref a)) => a
  | _ => 0
/-- the first default of the function at f, if it is an object -/
def dflOf (K : PySem.W.Frag) (f : Addr) : Addr := match K.lookup f with
  | some ⟨_, _, .func fd, _⟩ => (match fd.defaults with
    | .ref T => (match K.lookup T with
      | some ⟨_, _, .seq its _, _⟩ => (match its.toList with
        | .ref a :: _ => a
        | _ => 0)
      | _ => 0)
    | _ => 0)
  | _ => 0
/-! ### facts that are decided -/
theorem ex_at {l : List Bool} (h : (l.all fun b => b) = true) (i : Nat) {P : Prop} [Decidable P] (e : l[i]? = some (decide P)) : P :=
  of_decide_eq_true (List.all_eq_true.mp h _ (List.mem_of_getElem? e))
/-- a property's record -/
def recB (K : PySem.W.Frag) (p : Addr) : Bool := match PySem.W.recIn K p "property" with
  | some (.ref _ :: _) => true
  | _ => false
theorem recB_ok {K : PySem.W.Frag} {p : Addr} (h : recB K p = true) : ∃ rest, PySem.W.recIn K p "property" = some (.ref (getterOf K p) :: rest) := by
  unfold recB at h
  unfold getterOf
  split at h
  · rename_i f r e
    rw [e]
    exact ⟨r, rfl⟩
  · cases h
/-- a whole number under a name of a dict -/
def intB (K : PySem.W.Frag) (d : Addr) (x : Str) (i : Int) : Bool := match PySem.W.nsIn K d x with
  | some (some (.int j _)) => decide (j = i)
  | _ => false
theorem intB_ok {K : PySem.W.Frag} {d : Addr} {x : Str} {i : Int} (h : intB K d x i = true) : ∃ t, PySem.W.nsIn K d x = some (some (.int i t)) := by
  unfold intB at h
  split at h
  · rename_i j t e
    rw [e, of_decide_eq_true h]
    exact ⟨t, rfl⟩
  · cases h
/-- a tuple of whole numbers -/
def tupN (K : PySem.W.Frag) (a : Addr) (ns : List Int) : Bool := match K.lookup a with
  | some ⟨.type c, _, .seq its _, _⟩ => decide (c = "tuple") && (decide (its.toList.length ≤ 1000) && He.relAll (ns.map V.int) its.toList)
  | _ => false
/-- a class of exceptions -/
def excB (K : PySem.W.Frag) (C : Addr) : Bool := match K.lookup C with
  | some ⟨.type t, _, .cls cd, sl⟩ => (match cd.mro, sl.toList with
    | .ref D :: bm, [_, _, _, _, some (.builtin n), _] => decide (t = "type") && (decide (D = C) && (decide (n = "ValueError.__new__") && (!cd.hasDel && (cd.hasDict && PySem.HandSPX.refsVE bm))))
    | _, _ => false)
  | _ => false
theorem excB_ok {K : PySem.W.Frag} {C : Addr} (h : excB K C = true) : ∃ nm q N bs bm sn sub ab col dd k0 k1 k2 k3 k5, K.lookup C = some (excClassObj nm q C N bs bm true sn sub ab col dd k0 k1 k2 k3 k5 "ValueError.__new__") ∧ PySem.HandSPX.refsVE bm = true := by
  unfold excB at h
  split at h
  · rename_i t dd cd sl e
    split at h
    · rename_i D bm k0 k1 k2 k3 n k5 em es
      obtain ⟨h1, h⟩ := Bool.and_eq_true_iff.mp h
      obtain ⟨h2, h⟩ := Bool.and_eq_true_iff.mp h
      obtain ⟨h3, h⟩ := Bool.and_eq_true_iff.mp h
      obtain ⟨h4, h⟩ := Bool.and_eq_true_iff.mp h
      obtain ⟨h5, h6⟩ := Bool.and_eq_true_iff.mp h
      obtain rfl := of_decide_eq_true h1
      obtain rfl := of_decide_eq_true h2
      obtain rfl := of_decide_eq_true h3
      obtain ⟨nm, bs, mro, N, qn, hd, sn, sub, ab, col, del⟩ := cd
      dsimp only at em h4 h5
      obtain rfl : del = false := by cases del <;> simp_all
      subst em h5
      obtain rfl : sl = #[k0, k1, k2, k3, some (.builtin "ValueError.__new__"), k5] := Array.toList_inj.mp es
      exact ⟨nm, qn, N, bs, bm, sn, sub, ab, col, dd, k0, k1, k2, k3, k5, e, h6⟩
    · cases h
  · cases h
/-! ### defs -/
abbrev FnA : Type := Option (Str × Str × Arguments × FuncBody × Scope × Addr × List (Str × Addr) × Addr)
def fnA (K : PySem.W.Frag) (a : Addr) : FnA := match K.lookup a with
  | some ⟨_, _, .func fd, _⟩ => some (fd.name, fd.qualname, fd.params, fd.body, fd.scope, fd.globals, fd.closure, fd.builtins)
  | _ => none
/-- a def of the text: where its function stands, its name, its qualified name, its row, its defaults -/
structure DefA where
  adr : PySem.W.Frag → Addr
  name : Str
  qual : Str
  st : Stmt
  dfl : PySem.W.Frag → List V := fun _ => []
def DefA.val (d : DefA) : FnA := some (d.name, d.qual, defArgs d.st, .stmts (defBody d.st), defScope d.st, mainGlobals, [], builtinsNs)
def noKwd : Value → Bool
  | .none => true
  | _ => false
def DefA.ok (K : PySem.W.Frag) (d : DefA) : Bool := PySem.W.keepIn K (.ref (d.adr K)) && (match K.lookup (d.adr K) with
  | some ⟨_, _, .func fd, _⟩ => PySem.W.codeIn K fd.code d.qual && (He.dflB K fd.defaults (d.dfl K) && noKwd fd.kwdefaults)
  | _ => false)
theorem DefA.is {K : PySem.W.Frag} {d : DefA} (e : fnA K (d.adr K) = d.val) (c : d.ok K = true) : ∃ oc od dV doc pm an cdv ct osl,
    K.lookup (d.adr K) = some ⟨oc, od, .func (PySem.W.fnOf d.name d.qual (defArgs d.st) (defBody d.st) (defScope d.st) dV .none doc pm an cdv ct), osl⟩ ∧ PySem.W.codeIn K cdv d.qual = true ∧ DflV K dV (d.dfl K) ∧ PySem.W.keepIn K (.ref (d.adr K)) = true := by
  obtain ⟨kp, c2⟩ := Bool.and_eq_true_iff.mp c
  unfold fnA at e
  cases q : K.lookup (d.adr K) with
  | none => rw [q] at c2; cases c2
  | some o =>
    obtain ⟨oc, od, dt, osl⟩ := o
    rw [q] at c2 e
    cases dt with
    | func fd =>
      obtain ⟨n1, n2, n3, n4, n5, n6, n7, n8, n9, n10, n11, n12, n13, n14, n15⟩ := fd
      have e2 : (some (n1, n2, n3, n4, n5, n6, n7, n15) : FnA) = some (d.name, d.qual, defArgs d.st, .stmts (defBody d.st), defScope d.st, mainGlobals, [], builtinsNs) := e
      simp only [Option.some.injEq, Prod.mk.injEq] at e2
      obtain ⟨rfl, rfl, rfl, rfl, rfl, rfl, rfl, rfl⟩ := e2
      have c3 : (PySem.W.codeIn K n13 d.qual && (He.dflB K n8 (d.dfl K) && noKwd n9)) = true := c2
      obtain ⟨k1, k2⟩ := Bool.and_eq_true_iff.mp c3
      obtain ⟨k3, k4⟩ := Bool.and_eq_true_iff.mp k2
      cases n9 with
      | none => exact ⟨oc, od, n8, n10, n11, n12, n13, n14, osl, rfl, k1, He.dflB_ok k3, kp⟩
      | _ => cases k4
    | _ => cases c2
/-- a def without defaults -/
theorem DefA.fun {K : PySem.W.Frag} {d : DefA} (e : fnA K (d.adr K) = d.val) (c : d.ok K = true) (h : d.dfl K = []) : ∃ fd, Fun K d.name d.qual d.st (d.adr K) fd := by
  obtain ⟨oc, od, dV, doc, pm, an, cdv, ct, osl, lk, cd, df, kp⟩ := DefA.is e c
  rw [h] at df
  rcases df with ⟨_, rfl⟩ | ⟨z, _⟩
  · exact ⟨_, ⟨oc, od, .none, doc, pm, an, cdv, ct, osl, rfl, lk, cd⟩, kp⟩
  · exact absurd rfl z
theorem DefA.funD {K : PySem.W.Frag} {d : DefA} (e : fnA K (d.adr K) = d.val) (c : d.ok K = true) : ∃ fd, FunD K d.name d.qual (defArgs d.st) (defBody d.st) (defScope d.st) (d.dfl K) [] (d.adr K) fd := by
  obtain ⟨oc, od, dV, doc, pm, an, cdv, ct, osl, lk, cd, df, kp⟩ := DefA.is e c
  exact ⟨_, ⟨oc, od, dV, .none, doc, pm, an, cdv, ct, osl, rfl, lk, cd, df, .inl rfl⟩, kp⟩
/-! ### the hook -/
abbrev AlA : Type := Bool × List FnA × List (Option (List (Option (Str × Int))))
def obsA (ex : PySem.W.Frag → List Bool) (fn : List DefA) (ts : List He.Tab) (K : PySem.W.Frag) : AlA := (((ex K).all fun b => b) && fn.all fun d => d.ok K, fn.map fun d => fnA K (d.adr K), ts.map fun t => He.dicW K (t.1 K))
def valA (fn : List DefA) (ts : List He.Tab) (w : World) : AlA := (true, fn.map DefA.val, ts.map fun t => some (He.keysIn w.params t.2))
def SaysA (ex : PySem.W.Frag → List Bool) (fn : List DefA) (ts : List He.Tab) (w : World) (K : PySem.W.Frag) : Prop := obsA ex fn ts K = valA fn ts w
/-! ### what the module's names reach -/
inductive VT where
  | nil
  | node (b : Bool) (l r : VT)
def VT.get : Nat → VT → Nat → Bool
  | _, .nil, _ => false
  | 0, .node b _ _, _ => b
  | f + 1, .node _ l r, i => match Nat.beq (i % 2) 1 with
    | true => l.get f (i / 2)
    | false => r.get f (i / 2)
def VT.ins : Nat → VT → Nat → VT
  | 0, _, _ => .node true .nil .nil
  | f + 1, .nil, i => (match Nat.beq (i % 2) 1 with
    | true => .node false (VT.ins f .nil (i / 2)) .nil
    | false => .node false .nil (VT.ins f .nil (i / 2)))
  | f + 1, .node b l r, i => (match Nat.beq (i % 2) 1 with
    | true => .node b (VT.ins f l (i / 2)) r
    | false => .node b l (VT.ins f r (i / 2)))
def seeA {α : Type} (g : Addr → Option Obj) : List Addr → VT → List (Addr × Obj) → (VT → List (Addr × Obj) → α) → α
  | [], t, l, k => k t l
  | a :: r, t, l, k => match t.get 20 a with
    | true => seeA g r t l k
    | false => match g a with
      | some o => seeA g r (t.ins 20 a) ((a, o) :: l) k
      | none => seeA g r t l k
def lvA (g : Addr → Option Obj) : Nat → List Addr → VT → List (Addr × Obj) → List (Addr × Obj)
  | 0, _, _, acc => acc
  | n + 1, fr, t, acc => seeA g fr t [] fun t2 l => lvA g n (l.flatMap fun (p : Addr × Obj) => He.refsD p.2) t2 (l ++ acc)
def reachA (n : Nat) (g : Addr → Option Obj) : PySem.W.Frag := lvA g n [mainGlobals] .nil []
theorem seeA_ok {α : Type} {g : Addr → Option Obj} {Q : α → Prop} : ∀ (fr : List Addr) (t : VT) (l : List (Addr × Obj)) (k : VT → List (Addr × Obj) → α), (∀ p ∈ l, g p.1 = some p.2) → (∀ t2 (l2 : List (Addr × Obj)), (∀ p ∈ l2, g p.1 = some p.2) → Q (k t2 l2)) → Q (seeA g fr t l k)
  | [], t, l, k, hl, h => h t l hl
  | a :: r, t, l, k, hl, h => by
    unfold seeA
    split
    · exact seeA_ok r t l k hl h
    · split
      · rename_i o e
        exact seeA_ok r _ _ k (fun p hp => (List.mem_cons.mp hp).elim (fun z => z ▸ e) (hl p)) h
      · exact seeA_ok r t l k hl h
theorem lvA_ok {g : Addr → Option Obj} : ∀ (n : Nat) (fr : List Addr) (t : VT) (acc : List (Addr × Obj)), (∀ p ∈ acc, g p.1 = some p.2) → ∀ p ∈ lvA g n fr t acc, g p.1 = some p.2
  | 0, _, _, acc, h => h
  | n + 1, fr, t, acc, h => seeA_ok (Q := fun z : List (Addr × Obj) => ∀ p ∈ z, g p.1 = some p.2) fr t [] _ (fun p hp => absurd hp (by simp)) fun t2 l2 hl => lvA_ok n _ t2 (l2 ++ acc) fun p hp => (List.mem_append.mp hp).elim (hl p) (h p)
theorem mem_lookup {a : Addr} {o : Obj} : ∀ {l : List (Addr × Obj)}, l.lookup a = some o → (a, o) ∈ l
  | [], h => nomatch (show (none : Option Obj) = some o from h)
  | (b, u) :: r, h => by
    rw [List.lookup_cons] at h
    cases q : (a == b) with
    | true =>
      rw [q] at h
      obtain rfl := Option.some.inj h
      rw [eq_of_beq q]
      exact List.mem_cons_self
    | false => rw [q] at h; exact List.mem_cons_of_mem _ (mem_lookup h)
theorem reachA_in {n : Nat} {h : Heap} : (reachA n h.get?).In h := fun a o e => lvA_ok n _ _ _ (fun p hp => absurd hp (by simp)) (a, o) (mem_lookup e)
def obsAG (n : Nat) (ex : PySem.W.Frag → List Bool) (fn : List DefA) (ts : List He.Tab) (g : Addr → Option Obj) : AlA := obsA ex fn ts (reachA n g)
def hookA (n : Nat) (ex : PySem.W.Frag → List Bool) (fn : List DefA) (ts : List He.Tab) : PySem.W.Hook where
  α := AlA
  obs := fun s => obsAG n ex fn ts s.heap.get?
  val := fun w => valA fn ts w
  says := fun w h => ∃ K : PySem.W.Frag, K.In h ∧ SaysA ex fn ts w K
  of := fun _ _ e => ⟨_, reachA_in, e⟩
  keeps := fun _ _ _ ⟨K, hK, c⟩ k => ⟨K, PySem.W.Frag.In.keeps hK k, c⟩
theorem obsAG_eq {n : Nat} {ex : PySem.W.Frag → List Bool} {fn : List DefA} {ts : List He.Tab} {g : Addr → Option Obj} {s : Shared} (h : ∀ a, g a = s.heap.get? a) : obsAG n ex fn ts g = (hookA n ex fn ts).obs s := by
  obtain rfl : g = s.heap.get? := funext h
  rfl
section
variable {ff : PySem.W.Frag → List Bool} {fn : List DefA} {ts : List He.Tab} {w : World} {K : PySem.W.Frag}
theorem SaysA.facts (c : SaysA ff fn ts w K) : ((ff K).all fun b => b) = true := (Bool.and_eq_true_iff.mp (congrArg (fun z : AlA => z.1) c)).1
theorem SaysA.at (c : SaysA ff fn ts w K) {i : Nat} {d : DefA} (h : fn[i]? = some d) : fnA K (d.adr K) = d.val ∧ d.ok K = true := by
  have all := (Bool.and_eq_true_iff.mp (show (((ff K).all fun b => b) && fn.all fun d => d.ok K) = true from congrArg (fun z : AlA => z.1) c)).2
  have e : fn.map (fun d => fnA K (d.adr K)) = fn.map DefA.val := congrArg (fun z : AlA => z.2.1) c
  have e2 : (fn.map fun d => fnA K (d.adr K))[i]? = (fn.map DefA.val)[i]? := by rw [e]
  rw [List.getElem?_map, List.getElem?_map, h] at e2
  exact ⟨Option.some.inj e2, List.all_eq_true.mp all d (List.mem_of_getElem? h)⟩
theorem SaysA.fun (c : SaysA ff fn ts w K) (i : Nat) {d : DefA} (h : fn[i]? = some d) (n : d.dfl K = []) : ∃ fd, Fun K d.name d.qual d.st (d.adr K) fd := DefA.fun (c.at h).1 (c.at h).2 n
theorem SaysA.funD (c : SaysA ff fn ts w K) (i : Nat) {d : DefA} (h : fn[i]? = some d) : ∃ fd, FunD K d.name d.qual (defArgs d.st) (defBody d.st) (defScope d.st) (d.dfl K) [] (d.adr K) fd := DefA.funD (c.at h).1 (c.at h).2
theorem SaysA.tab (c : SaysA ff fn ts w K) (i : Nat) {t : He.Tab} (h : ts[i]? = some t) : ∃ es n, KDict K w (t.1 K) es n := by
  have e : ts.map (fun t => He.dicW K (t.1 K)) = ts.map fun t => some (He.keysIn w.params t.2) := congrArg (fun z : AlA => z.2.2) c
  have e2 : (ts.map fun t => He.dicW K (t.1 K))[i]? = (ts.map fun t => some (He.keysIn w.params t.2))[i]? := by rw [e]
  rw [List.getElem?_map, List.getElem?_map, h] at e2
  exact He.dicW_ok (Option.some.inj e2)
end
/-! ### the run's equation in parts -/
theorem map3 {α β γ δ : Type} {o : Option α} {f : α → β} {g : α → γ} {h : α → δ} {a : β} {b : γ} {c : δ} (hf : o.map f = some a) (hg : o.map g = some b) (hh : o.map h = some c) : o.map (fun x => (f x, g x, h x)) = some (a, b, c) := by
  cases o with
  | none => cases hf
  | some x =>
    obtain rfl := Option.some.inj hf
    obtain rfl := Option.some.inj hg
    obtain rfl := Option.some.inj hh
    rfl
theorem map2 {α β γ δ : Type} {o : Option α} {f : α → β} {g : α → γ} {h : α → δ} {a : β} {b : γ} {c : δ} (hf : o.map (fun x => (f x, g x)) = some (a, b)) (hh : o.map h = some c) : o.map (fun x => (f x, g x, h x)) = some (a, b, c) := by
  cases o with
  | none => cases hf
  | some x =>
    obtain ⟨rfl, rfl⟩ := Prod.mk.inj (Option.some.inj hf)
    obtain rfl := Option.some.inj hh
    rfl
theorem mapA {α : Type} {o : Option α} {k : α → PySem.W.Frag} {ex : PySem.W.Frag → List Bool} {fn : List DefA} {ts : List He.Tab} {w : World} (h1 : o.map (fun x => ((ex (k x)).all fun b => b, ts.map fun t => He.dicW (k x) (t.1 (k x)))) = some (true, ts.map fun t => some (He.keysIn w.params t.2)))
    (h2 : o.map (fun x => (fn.all fun d => d.ok (k x), fn.map fun d => fnA (k x) (d.adr (k x)))) = some (true, fn.map DefA.val)) : o.map (fun x => obsA ex fn ts (k x)) = some (valA fn ts w) := by
  cases o with
  | none => cases h1
  | some x =>
    have e1 := Option.some.inj h1
    have e2 := Option.some.inj h2
    have a1 : ((ex (k x)).all fun b => b) = true := congrArg (fun z : Bool × List (Option (List (Option (Str × Int)))) => z.1) e1
    have a2 : (ts.map fun t => He.dicW (k x) (t.1 (k x))) = ts.map fun t => some (He.keysIn w.params t.2) := congrArg (fun z : Bool × List (Option (List (Option (Str × Int)))) => z.2) e1
    have e4 : (fn.all fun d => d.ok (k x)) = true := congrArg (fun z : Bool × List FnA => z.1) e2
    have e5 : (fn.map fun d => fnA (k x) (d.adr (k x))) = fn.map DefA.val := congrArg (fun z : Bool × List FnA => z.2) e2
    show some (obsA ex fn ts (k x)) = _
    unfold obsA valA
    rw [a1, e4, e5, a2] <;> rfl
end DL

set_option Elab.async false
set_option linter.all false
set_option maxRecDepth 100000
namespace Law
open PySem L2 DL
def top (i : Nat) : Stmt := PySem.Challenge.pw_stridelanes_k05_kernels_made.main.body.getD i (.Pass ⟨0, 0, 0, 0⟩)
abbrev s_is_guard : Stmt := top 9
abbrev s_is_array_name : Stmt := top 15
abbrev s_is_statement : Stmt := top 16
abbrev s_access_at : Stmt := top 17
abbrev s_accesses_of : Stmt := top 18
abbrev s_count_up_to : Stmt := top 19
abbrev s_check_lanes : Stmt := top 21
abbrev s_check_statement : Stmt := top 22
abbrev s_check_barriers : Stmt := top 23
abbrev s_Kernel___init__ : Stmt := inClass (top 24) 0
abbrev s_Kernel_lanes : Stmt := inClass (top 24) 1
abbrev s_Kernel_statements : Stmt := inClass (top 24) 2
abbrev s_Kernel_barriers : Stmt := inClass (top 24) 3
abbrev s_Kernel___len__ : Stmt := inClass (top 24) 5
abbrev s_Kernel___eq__ : Stmt := inClass (top 24) 6
abbrev s_Kernel___add__ : Stmt := inClass (top 24) 7
abbrev s_Kernel_with_barriers : Stmt := inClass (top 24) 9
abbrev s_accesses : Stmt := top 25
abbrev s_phase_of : Stmt := top 26
abbrev s__law_source : Stmt := top 28
abbrev s__law_draw : Stmt := top 29
abbrev s__law_same : Stmt := top 30
abbrev s__law_guard : Stmt := top 32
abbrev s__law_cell : Stmt := top 33
abbrev s__law_statement : Stmt := top 34
abbrev s__law_places : Stmt := top 35
abbrev s__law_parts : Stmt := top 36
abbrev s__law_phase : Stmt := top 37
abbrev s__law_far_statement : Stmt := top 40
abbrev s__law_name : Stmt := top 41
abbrev s__law_bent : Stmt := top 42
abbrev s__law_drawn : Stmt := top 43
abbrev s__law_accesses_right : Stmt := top 44
abbrev s__law_made_right : Stmt := top 45
abbrev s__law_sum_right : Stmt := top 46
abbrev s_law : Stmt := top 47
def exl (K : PySem.W.Frag) : List Bool := [decide (PySem.W.nsIn K mainGlobals "InvalidBarrier" = some (some (.ref (He.ga K "InvalidBarrier")))),
  decide (excB K (He.ga K "InvalidBarrier") = true),
  decide (PySem.W.findIn K (.ref (He.ga K "InvalidBarrier")) "__setattr__" = some (some (.builtin "object.__setattr__"))),
  decide (PySem.W.findIn K (.ref (He.ga K "InvalidBarrier")) "__getattribute__" = some (some (.builtin "BaseException.__getattribute__"))),
  decide (PySem.W.findIn K (.ref (He.ga K "InvalidBarrier")) "__getattr__" = some none),
  decide (PySem.W.findIn K (.ref (He.ga K "InvalidBarrier")) "value" = some none),
  decide (PySem.W.findIn K (.ref (He.ga K "InvalidBarrier")) "__init__" = some (some (.ref (He.ma K (He.ga K "StrideError") "__init__")))),
  decide (PySem.W.typeIn K (.ref (He.ma K (He.ga K "StrideError") "__init__")) = some (.type "function")),
  decide (PySem.W.keepIn K (.ref (He.ga K "InvalidBarrier")) = true),
  decide (PySem.W.subIn K (.ref (He.ga K "InvalidBarrier")) (.type "BaseException") = some true),
  decide (PySem.W.typeIn K (.ref (He.ga K "InvalidBarrier")) = some (.type "type")),
  decide (PySem.W.hasDictIn K (He.ga K "InvalidBarrier") = true),
  decide (PySem.W.exmOne K (.ref (He.ga K "InvalidBarrier")) (.ref (He.ga K "InvalidBarrier")) = some true),
  decide (PySem.W.nsIn K mainGlobals "InvalidLanes" = some (some (.ref (He.ga K "InvalidLanes")))),
  decide (excB K (He.ga K "InvalidLanes") = true),
  decide (PySem.W.findIn K (.ref (He.ga K "InvalidLanes")) "__setattr__" = some (some (.builtin "object.__setattr__"))),
  decide (PySem.W.findIn K (.ref (He.ga K "InvalidLanes")) "__getattribute__" = some (some (.builtin "BaseException.__getattribute__"))),
  decide (PySem.W.findIn K (.ref (He.ga K "InvalidLanes")) "__getattr__" = some none),
  decide (PySem.W.findIn K (.ref (He.ga K "InvalidLanes")) "value" = some none),
  decide (PySem.W.findIn K (.ref (He.ga K "InvalidLanes")) "__init__" = some (some (.ref (He.ma K (He.ga K "StrideError") "__init__")))),
  decide (PySem.W.keepIn K (.ref (He.ga K "InvalidLanes")) = true),
  decide (PySem.W.subIn K (.ref (He.ga K "InvalidLanes")) (.type "BaseException") = some true),
  decide (PySem.W.typeIn K (.ref (He.ga K "InvalidLanes")) = some (.type "type")),
  decide (PySem.W.hasDictIn K (He.ga K "InvalidLanes") = true),
  decide (PySem.W.exmOne K (.ref (He.ga K "InvalidLanes")) (.ref (He.ga K "InvalidLanes")) = some true),
  decide (PySem.W.nsIn K mainGlobals "InvalidNumber" = some (some (.ref (He.ga K "InvalidNumber")))),
  decide (excB K (He.ga K "InvalidNumber") = true),
  decide (PySem.W.findIn K (.ref (He.ga K "InvalidNumber")) "__setattr__" = some (some (.builtin "object.__setattr__"))),
  decide (PySem.W.findIn K (.ref (He.ga K "InvalidNumber")) "__getattribute__" = some (some (.builtin "BaseException.__getattribute__"))),
  decide (PySem.W.findIn K (.ref (He.ga K "InvalidNumber")) "__getattr__" = some none),
  decide (PySem.W.findIn K (.ref (He.ga K "InvalidNumber")) "value" = some none),
  decide (PySem.W.findIn K (.ref (He.ga K "InvalidNumber")) "__init__" = some (some (.ref (He.ma K (He.ga K "StrideError") "__init__")))),
  decide (PySem.W.keepIn K (.ref (He.ga K "InvalidNumber")) = true),
  decide (PySem.W.subIn K (.ref (He.ga K "InvalidNumber")) (.type "BaseException") = some true),
  decide (PySem.W.typeIn K (.ref (He.ga K "InvalidNumber")) = some (.type "type")),
  decide (PySem.W.hasDictIn K (He.ga K "InvalidNumber") = true),
  decide (PySem.W.exmOne K (.ref (He.ga K "InvalidNumber")) (.ref (He.ga K "InvalidNumber")) = some true),
  decide (PySem.W.nsIn K mainGlobals "InvalidStatement" = some (some (.ref (He.ga K "InvalidStatement")))),
  decide (excB K (He.ga K "InvalidStatement") = true),
  decide (PySem.W.findIn K (.ref (He.ga K "InvalidStatement")) "__setattr__" = some (some (.builtin "object.__setattr__"))),
  decide (PySem.W.findIn K (.ref (He.ga K "InvalidStatement")) "__getattribute__" = some (some (.builtin "BaseException.__getattribute__"))),
  decide (PySem.W.findIn K (.ref (He.ga K "InvalidStatement")) "__getattr__" = some none),
  decide (PySem.W.findIn K (.ref (He.ga K "InvalidStatement")) "value" = some none),
  decide (PySem.W.findIn K (.ref (He.ga K "InvalidStatement")) "__init__" = some (some (.ref (He.ma K (He.ga K "StrideError") "__init__")))),
  decide (PySem.W.keepIn K (.ref (He.ga K "InvalidStatement")) = true),
  decide (PySem.W.subIn K (.ref (He.ga K "InvalidStatement")) (.type "BaseException") = some true),
  decide (PySem.W.typeIn K (.ref (He.ga K "InvalidStatement")) = some (.type "type")),
  decide (PySem.W.hasDictIn K (He.ga K "InvalidStatement") = true),
  decide (PySem.W.exmOne K (.ref (He.ga K "InvalidStatement")) (.ref (He.ga K "InvalidStatement")) = some true),
  decide (PySem.W.nsIn K mainGlobals "UnlikeLanes" = some (some (.ref (He.ga K "UnlikeLanes")))),
  decide (excB K (He.ga K "UnlikeLanes") = true),
  decide (PySem.W.findIn K (.ref (He.ga K "UnlikeLanes")) "__setattr__" = some (some (.builtin "object.__setattr__"))),
  decide (PySem.W.findIn K (.ref (He.ga K "UnlikeLanes")) "__getattribute__" = some (some (.builtin "BaseException.__getattribute__"))),
  decide (PySem.W.findIn K (.ref (He.ga K "UnlikeLanes")) "__getattr__" = some none),
  decide (PySem.W.findIn K (.ref (He.ga K "UnlikeLanes")) "value" = some none),
  decide (PySem.W.findIn K (.ref (He.ga K "UnlikeLanes")) "__init__" = some (some (.ref (He.ma K (He.ga K "StrideError") "__init__")))),
  decide (PySem.W.keepIn K (.ref (He.ga K "UnlikeLanes")) = true),
  decide (PySem.W.subIn K (.ref (He.ga K "UnlikeLanes")) (.type "BaseException") = some true),
  decide (PySem.W.typeIn K (.ref (He.ga K "UnlikeLanes")) = some (.type "type")),
  decide (PySem.W.hasDictIn K (He.ga K "UnlikeLanes") = true),
  decide (PySem.W.exmOne K (.ref (He.ga K "UnlikeLanes")) (.ref (He.ga K "UnlikeLanes")) = some true),
  decide (PySem.W.nsIn K mainGlobals "abs" = some none),
  decide (PySem.W.nsIn K mainGlobals "all" = some none),
  decide (PySem.W.nsIn K mainGlobals "enumerate" = some none),
  decide (PySem.W.nsIn K mainGlobals "int" = some none),
  decide (PySem.W.nsIn K mainGlobals "isinstance" = some none),
  decide (PySem.W.nsIn K mainGlobals "len" = some none),
  decide (PySem.W.nsIn K mainGlobals "list" = some none),
  decide (PySem.W.nsIn K mainGlobals "min" = some none),
  decide (PySem.W.nsIn K mainGlobals "range" = some none),
  decide (PySem.W.nsIn K mainGlobals "repr" = some none),
  decide (PySem.W.nsIn K mainGlobals "str" = some none),
  decide (PySem.W.nsIn K mainGlobals "tuple" = some none),
  decide (intB K mainGlobals "WRITTEN" 2 = true),
  decide (PySem.W.plainGet K (He.ga K "Kernel") Str.empty = true),
  decide (PySem.W.hasDictIn K (He.ga K "Kernel") = true),
  decide (PySem.W.plainOver K (He.ga K "Kernel") = true),
  decide (PySem.W.findIn K (.ref (He.ga K "Kernel")) "__setattr__" = some (some (.builtin "object.__setattr__"))),
  decide (PySem.W.findIn K (.ref (He.ga K "Kernel")) "_barriers" = some none),
  decide (PySem.W.findIn K (.ref (He.ga K "Kernel")) "_lanes" = some none),
  decide (PySem.W.findIn K (.ref (He.ga K "Kernel")) "_racing" = some none),
  decide (PySem.W.findIn K (.ref (He.ga K "Kernel")) "_statements" = some none),
  decide (PySem.W.nsIn K (He.ga K "ACCESSES") "sum" = some (some (.ref (valAt K (He.ga K "ACCESSES") "sum")))),
  decide (tupN K (valAt K (He.ga K "ACCESSES") "sum") [5, 8, 2] = true),
  decide (PySem.W.nsIn K (He.ga K "ACCESSES") "move" = some (some (.ref (valAt K (He.ga K "ACCESSES") "move")))),
  decide (tupN K (valAt K (He.ga K "ACCESSES") "move") [5, 2] = true),
  decide (PySem.W.nsIn K (He.ga K "ACCESSES") "put" = some (some (.ref (valAt K (He.ga K "ACCESSES") "put")))),
  decide (tupN K (valAt K (He.ga K "ACCESSES") "put") [2] = true),
  decide (PySem.W.nsIn K mainGlobals "ACCESSES" = some (some (.ref (He.ga K "ACCESSES")))),
  decide (PySem.W.nsIn K (He.ga K "ARRAYS") "sum" = some (some (.ref (valAt K (He.ga K "ARRAYS") "sum")))),
  decide (tupN K (valAt K (He.ga K "ARRAYS") "sum") [2, 5, 8] = true),
  decide (PySem.W.nsIn K (He.ga K "ARRAYS") "move" = some (some (.ref (valAt K (He.ga K "ARRAYS") "move")))),
  decide (tupN K (valAt K (He.ga K "ARRAYS") "move") [2, 5] = true),
  decide (PySem.W.nsIn K (He.ga K "ARRAYS") "put" = some (some (.ref (valAt K (He.ga K "ARRAYS") "put")))),
  decide (tupN K (valAt K (He.ga K "ARRAYS") "put") [2] = true),
  decide (PySem.W.nsIn K mainGlobals "ARRAYS" = some (some (.ref (He.ga K "ARRAYS")))),
  decide (intB K (He.ga K "ITEMS") "sum" 11 = true),
  decide (intB K (He.ga K "ITEMS") "move" 9 = true),
  decide (intB K (He.ga K "ITEMS") "put" 7 = true),
  decide (PySem.W.nsIn K mainGlobals "ITEMS" = some (some (.ref (He.ga K "ITEMS")))),
  decide (PySem.W.findIn K (.ref (He.ga K "Kernel")) "__ne__" = some (some (.builtin "object.__ne__"))),
  decide (PySem.W.mroIn K (He.ga K "Kernel") (.type "object") = some true),
  decide (PySem.W.selfFirst K (He.ga K "Kernel") = true),
  decide (PySem.W.findIn K (.ref (He.ga K "Kernel")) "__class__" = some (some (.builtin "object.__class__"))),
  decide (PySem.W.specialIn K (.builtin "object.__class__") "__get__" = some (some (.builtin "getset_descriptor.__get__"))),
  decide (PySem.W.takesIn K (.builtin "object.__class__") = some true),
  decide (PySem.W.nsIn K mainGlobals "Kernel" = some (some (.ref (He.ga K "Kernel")))),
  decide (PySem.W.isClsIn K (He.ga K "Kernel") = true),
  decide (PySem.W.typeIn K (.ref (He.ga K "Kernel")) = some (.type "type")),
  decide (PySem.W.nsIn K mainGlobals "check_barriers" = some (some (.ref (He.ga K "check_barriers")))),
  decide (PySem.W.nsIn K mainGlobals "check_lanes" = some (some (.ref (He.ga K "check_lanes")))),
  decide (PySem.W.nsIn K mainGlobals "is_array_name" = some (some (.ref (He.ga K "is_array_name")))),
  decide (PySem.W.nsIn K mainGlobals "is_guard" = some (some (.ref (He.ga K "is_guard")))),
  decide (PySem.W.nsIn K mainGlobals "is_statement" = some (some (.ref (He.ga K "is_statement")))),
  decide (PySem.W.nsIn K mainGlobals "check_statement" = some (some (.ref (He.ga K "check_statement")))),
  decide (tupN K (dflOf K (He.ma K (He.ga K "Kernel") "__init__")) [] = true),
  decide (PySem.W.makesIn K (He.ga K "Kernel") = true),
  decide (PySem.W.findIn K (.ref (He.ga K "Kernel")) "__init__" = some (some (.ref (He.ma K (He.ga K "Kernel") "__init__")))),
  decide (PySem.W.isFn K (.ref (He.ma K (He.ga K "Kernel") "__init__")) = true),
  decide (PySem.W.keepIn K (.ref (He.ga K "Kernel")) = true),
  decide (PySem.W.findIn K (.ref (He.ga K "Kernel")) "with_barriers" = some (some (.ref (He.ma K (He.ga K "Kernel") "with_barriers")))),
  decide (PySem.W.isFn K (.ref (He.ma K (He.ga K "Kernel") "with_barriers")) = true),
  decide (PySem.W.keepIn K (.ref (He.ma K (He.ga K "Kernel") "with_barriers")) = true),
  decide (PySem.W.nsIn K mainGlobals "_law_draw" = some (some (.ref (He.ga K "_law_draw")))),
  decide (PySem.W.nsIn K mainGlobals "_law_far_statement" = some (some (.ref (He.ga K "_law_far_statement")))),
  decide (PySem.W.nsIn K mainGlobals "_law_name" = some (some (.ref (He.ga K "_law_name")))),
  decide (PySem.W.nsIn K mainGlobals "_law_places" = some (some (.ref (He.ga K "_law_places")))),
  decide (PySem.W.nsIn K mainGlobals "_law_cell" = some (some (.ref (He.ga K "_law_cell")))),
  decide (PySem.W.nsIn K mainGlobals "_law_guard" = some (some (.ref (He.ga K "_law_guard")))),
  decide (PySem.W.nsIn K mainGlobals "_law_statement" = some (some (.ref (He.ga K "_law_statement")))),
  decide (PySem.W.nsIn K mainGlobals "_law_drawn" = some (some (.ref (He.ga K "_law_drawn")))),
  decide (PySem.W.nsIn K mainGlobals "_law_parts" = some (some (.ref (He.ga K "_law_parts")))),
  decide (PySem.W.nsIn K mainGlobals "_law_phase" = some (some (.ref (He.ga K "_law_phase")))),
  decide (PySem.W.nsIn K mainGlobals "_law_same" = some (some (.ref (He.ga K "_law_same")))),
  decide (PySem.W.nsIn K mainGlobals "access_at" = some (some (.ref (He.ga K "access_at")))),
  decide (PySem.W.nsIn K mainGlobals "accesses_of" = some (some (.ref (He.ga K "accesses_of")))),
  decide (PySem.W.findIn K (.ref (He.ga K "Kernel")) "statements" = some (some (.ref (He.ma K (He.ga K "Kernel") "statements")))),
  decide (PySem.W.specialIn K (.ref (He.ma K (He.ga K "Kernel") "statements")) "__get__" = some (some (.builtin "property.__get__"))),
  decide (PySem.W.takesIn K (.ref (He.ma K (He.ga K "Kernel") "statements")) = some true),
  decide (recB K (He.ma K (He.ga K "Kernel") "statements") = true),
  decide (PySem.W.nsIn K mainGlobals "accesses" = some (some (.ref (He.ga K "accesses")))),
  decide (PySem.W.nsIn K mainGlobals "count_up_to" = some (some (.ref (He.ga K "count_up_to")))),
  decide (PySem.W.findIn K (.ref (He.ga K "Kernel")) "__len__" = some (some (.ref (He.ma K (He.ga K "Kernel") "__len__")))),
  decide (PySem.W.isFn K (.ref (He.ma K (He.ga K "Kernel") "__len__")) = true),
  decide (PySem.W.keepIn K (.ref (He.ma K (He.ga K "Kernel") "__len__")) = true),
  decide (PySem.W.findIn K (.ref (He.ga K "Kernel")) "barriers" = some (some (.ref (He.ma K (He.ga K "Kernel") "barriers")))),
  decide (PySem.W.specialIn K (.ref (He.ma K (He.ga K "Kernel") "barriers")) "__get__" = some (some (.builtin "property.__get__"))),
  decide (PySem.W.takesIn K (.ref (He.ma K (He.ga K "Kernel") "barriers")) = some true),
  decide (recB K (He.ma K (He.ga K "Kernel") "barriers") = true),
  decide (PySem.W.nsIn K mainGlobals "phase_of" = some (some (.ref (He.ga K "phase_of")))),
  decide (PySem.W.nsIn K mainGlobals "_law_accesses_right" = some (some (.ref (He.ga K "_law_accesses_right")))),
  decide (PySem.W.nsIn K mainGlobals "_law_bent" = some (some (.ref (He.ga K "_law_bent")))),
  decide (PySem.W.findIn K (.ref (He.ga K "Kernel")) "__eq__" = some (some (.ref (He.ma K (He.ga K "Kernel") "__eq__")))),
  decide (PySem.W.isFn K (.ref (He.ma K (He.ga K "Kernel") "__eq__")) = true),
  decide (PySem.W.keepIn K (.ref (He.ma K (He.ga K "Kernel") "__eq__")) = true),
  decide (PySem.W.findIn K (.ref (He.ga K "Kernel")) "lanes" = some (some (.ref (He.ma K (He.ga K "Kernel") "lanes")))),
  decide (PySem.W.specialIn K (.ref (He.ma K (He.ga K "Kernel") "lanes")) "__get__" = some (some (.builtin "property.__get__"))),
  decide (PySem.W.takesIn K (.ref (He.ma K (He.ga K "Kernel") "lanes")) = some true),
  decide (recB K (He.ma K (He.ga K "Kernel") "lanes") = true),
  decide (PySem.W.nsIn K mainGlobals "_law_made_right" = some (some (.ref (He.ga K "_law_made_right")))),
  decide (PySem.W.nsIn K mainGlobals "_law_source" = some (some (.ref (He.ga K "_law_source")))),
  decide (PySem.W.findIn K (.ref (He.ga K "Kernel")) "__add__" = some (some (.ref (He.ma K (He.ga K "Kernel") "__add__")))),
  decide (PySem.W.isFn K (.ref (He.ma K (He.ga K "Kernel") "__add__")) = true),
  decide (PySem.W.keepIn K (.ref (He.ma K (He.ga K "Kernel") "__add__")) = true),
  decide (PySem.W.nsIn K mainGlobals "_law_sum_right" = some (some (.ref (He.ga K "_law_sum_right")))),
  decide (PySem.W.nsIn K mainGlobals "law" = some (some (.ref (He.ga K "law"))))]
def fns : List DefA := [⟨fun K => (He.ma K (He.ga K "StrideError") "__init__"), "__init__", "StrideError.__init__", inClass (top 2) 0, fun _ => []⟩,
  ⟨fun K => (He.ga K "is_guard"), "is_guard", "is_guard", s_is_guard, fun K => []⟩,
  ⟨fun K => (He.ga K "is_array_name"), "is_array_name", "is_array_name", s_is_array_name, fun K => []⟩,
  ⟨fun K => (He.ga K "is_statement"), "is_statement", "is_statement", s_is_statement, fun K => []⟩,
  ⟨fun K => (He.ga K "access_at"), "access_at", "access_at", s_access_at, fun K => []⟩,
  ⟨fun K => (He.ga K "accesses_of"), "accesses_of", "accesses_of", s_accesses_of, fun K => []⟩,
  ⟨fun K => (He.ga K "count_up_to"), "count_up_to", "count_up_to", s_count_up_to, fun K => []⟩,
  ⟨fun K => (He.ga K "check_lanes"), "check_lanes", "check_lanes", s_check_lanes, fun K => []⟩,
  ⟨fun K => (He.ga K "check_statement"), "check_statement", "check_statement", s_check_statement, fun K => []⟩,
  ⟨fun K => (He.ga K "check_barriers"), "check_barriers", "check_barriers", s_check_barriers, fun K => []⟩,
  ⟨fun K => (He.ma K (He.ga K "Kernel") "__init__"), "__init__", "Kernel.__init__", s_Kernel___init__, fun K => [.ref (dflOf K (He.ma K (He.ga K "Kernel") "__init__"))]⟩,
  ⟨fun K => (getterOf K (He.ma K (He.ga K "Kernel") "lanes")), "lanes", "Kernel.lanes", s_Kernel_lanes, fun K => []⟩,
  ⟨fun K => (getterOf K (He.ma K (He.ga K "Kernel") "statements")), "statements", "Kernel.statements", s_Kernel_statements, fun K => []⟩,
  ⟨fun K => (getterOf K (He.ma K (He.ga K "Kernel") "barriers")), "barriers", "Kernel.barriers", s_Kernel_barriers, fun K => []⟩,
  ⟨fun K => (He.ma K (He.ga K "Kernel") "__len__"), "__len__", "Kernel.__len__", s_Kernel___len__, fun K => []⟩,
  ⟨fun K => (He.ma K (He.ga K "Kernel") "__eq__"), "__eq__", "Kernel.__eq__", s_Kernel___eq__, fun K => []⟩,
  ⟨fun K => (He.ma K (He.ga K "Kernel") "__add__"), "__add__", "Kernel.__add__", s_Kernel___add__, fun K => []⟩,
  ⟨fun K => (He.ma K (He.ga K "Kernel") "with_barriers"), "with_barriers", "Kernel.with_barriers", s_Kernel_with_barriers, fun K => []⟩,
  ⟨fun K => (He.ga K "accesses"), "accesses", "accesses", s_accesses, fun K => []⟩,
  ⟨fun K => (He.ga K "phase_of"), "phase_of", "phase_of", s_phase_of, fun K => []⟩,
  ⟨fun K => (He.ga K "_law_source"), "_law_source", "_law_source", s__law_source, fun K => []⟩,
  ⟨fun K => (He.ga K "_law_draw"), "_law_draw", "_law_draw", s__law_draw, fun K => []⟩,
  ⟨fun K => (He.ga K "_law_same"), "_law_same", "_law_same", s__law_same, fun K => []⟩,
  ⟨fun K => (He.ga K "_law_guard"), "_law_guard", "_law_guard", s__law_guard, fun K => []⟩,
  ⟨fun K => (He.ga K "_law_cell"), "_law_cell", "_law_cell", s__law_cell, fun K => []⟩,
  ⟨fun K => (He.ga K "_law_statement"), "_law_statement", "_law_statement", s__law_statement, fun K => []⟩,
  ⟨fun K => (He.ga K "_law_places"), "_law_places", "_law_places", s__law_places, fun K => []⟩,
  ⟨fun K => (He.ga K "_law_parts"), "_law_parts", "_law_parts", s__law_parts, fun K => []⟩,
  ⟨fun K => (He.ga K "_law_phase"), "_law_phase", "_law_phase", s__law_phase, fun K => []⟩,
  ⟨fun K => (He.ga K "_law_far_statement"), "_law_far_statement", "_law_far_statement", s__law_far_statement, fun K => []⟩,
  ⟨fun K => (He.ga K "_law_name"), "_law_name", "_law_name", s__law_name, fun K => []⟩,
  ⟨fun K => (He.ga K "_law_bent"), "_law_bent", "_law_bent", s__law_bent, fun K => []⟩,
  ⟨fun K => (He.ga K "_law_drawn"), "_law_drawn", "_law_drawn", s__law_drawn, fun K => []⟩,
  ⟨fun K => (He.ga K "_law_accesses_right"), "_law_accesses_right", "_law_accesses_right", s__law_accesses_right, fun K => []⟩,
  ⟨fun K => (He.ga K "_law_made_right"), "_law_made_right", "_law_made_right", s__law_made_right, fun K => []⟩,
  ⟨fun K => (He.ga K "_law_sum_right"), "_law_sum_right", "_law_sum_right", s__law_sum_right, fun K => []⟩,
  ⟨fun K => (He.ga K "law"), "law", "law", s_law, fun K => []⟩]
def tbs : List He.Tab := [(fun K => (He.ga K "ACCESSES"), ["put", "move", "sum"]), (fun K => (He.ga K "ARRAYS"), ["put", "move", "sum"]), (fun K => (He.ga K "ITEMS"), ["put", "move", "sum"])]
abbrev Rw : PySem.W.OpenRow := PySem.W.OpenLaw.row PySem.Challenge.rw_stridelanes_k05_kernels_made
abbrev hk : PySem.W.Hook := hookA 6 exl fns tbs
def ob (s : PySem.W.SharedT) : AlA := obsAG 6 exl fns tbs (HandSHeadRun.getT s)
theorem ob_eq (s : PySem.W.SharedT) : ob s = hk.obs s.abs := obsAG_eq (HandSHeadRun.getT_eq s)
def names0 : List PySem.Str := ["_wall", "StrideError", "InvalidLanes", "InvalidStatement", "InvalidBarrier", "InvalidNumber", "UnlikeLanes", "is_guard", "ITEMS", "ARRAYS", "WRITTEN", "ACCESSES", "is_array_name", "is_statement", "access_at", "accesses_of", "count_up_to", "check_lanes", "check_statement", "check_barriers", "Kernel", "accesses", "phase_of", "_law_source", "_law_draw", "_law_same", "_law_lanes", "_law_guard", "_law_cell", "_law_statement"]
def names1 : List PySem.Str := ["_law_places", "_law_parts", "_law_phase", "_law_open", "_law_pairs", "_law_far_statement", "_law_name", "_law_bent", "_law_drawn", "_law_accesses_right", "_law_made_right", "_law_sum_right"]
def names : List PySem.Str := names0 ++ names1
abbrev vw : Program := PySem.W.view Rw.prog [47]
set_option maxHeartbeats 0 in
theorem runF (w : World) : HandSHeadRun.RunEq Rw vw hk ob 40000 names (w.withFollow "special-get-raises" false) := by
  intro os
  kernel_rfl
set_option maxHeartbeats 0 in
theorem runT (w : World) : HandSHeadRun.RunEq Rw vw hk ob 40000 names (w.withFollow "special-get-raises" true) := by
  intro os
  kernel_rfl
theorem run (w : World) : HandSHeadRun.RunEq Rw vw hk ob 40000 names w := PySem.W.byRow2 "special-get-raises" (P := fun w => HandSHeadRun.RunEq Rw vw hk ob 40000 names w) runF runT w
end Law

set_option Elab.async false
set_option linter.all false
set_option maxRecDepth 100000
/-! DL1: data over the hand layer. A datum D is what a value is, with what it holds (a frozen list, a tuple: never written again); an address stands for an object that is still written, its content in the map of writables Mu. Readings over D, not over the heap. -/
namespace DL
open PySem L2

inductive D where
  | non | bl (b : Bool) | int (i : Int) | str (x : Str) | adr (a : Addr) | typ (n : String)
  | tup (l : List D) | lst (l : List D) | rol (l : List D) | ins (C : Addr) (ns : List Str) (l : List D) | exc (C : Addr) (d : D)

/-- an exception's object, known to the object -/
def exh (oe : Obj) : HO := .frz oe (.ext fun _ => True)
/-- the frozen objects; those that stay as they are (frozen, or out of reach) -/
structure Zo where
  F : Addr → Prop
  G : Addr → Prop
  sub : ∀ a, F a → G a

def FzT (K : PySem.W.Frag) (F : Zo) (H : Hp) (a : Addr) (vs : List V) : Prop := (F.F a ∧ Rd H a (.tup vs)) ∨ ∀ H', SqT K H' a vs
def FzR (K : PySem.W.Frag) (F : Zo) (H : Hp) (a : Addr) (vs : List V) : Prop := (F.F a ∧ Rd H a (.lst vs)) ∨ ∀ H', SqL K H' a vs

mutual
def Rep (K : PySem.W.Frag) (F : Zo) (H : Hp) : D → V → Prop
  | .non, v => v = .non
  | .bl b, v => v = .bl b
  | .int i, v => v = .int i
  | .str x, v => v = .str x
  | .adr a, v => v = .ref a
  | .typ n, v => v = .ty n
  | .tup l, v => ∃ a vs, v = .ref a ∧ FzT K F H a vs ∧ RepL K F H l vs
  | .lst l, v => ∃ a vs, v = .ref a ∧ (F.F a ∧ H a = some (.lst vs)) ∧ RepL K F H l vs
  | .rol l, v => ∃ a vs, v = .ref a ∧ FzR K F H a vs ∧ RepL K F H l vs
  | .ins C ns l, v => ∃ a dx vs, v = .ref a ∧ (F.F a ∧ H a = some (.ins C dx (ns.zip vs))) ∧ ns.length = vs.length ∧ RepL K F H l vs
  | .exc C d, v => ∃ a oe dx w, v = .ref a ∧ (F.F a ∧ H a = some (exh oe)) ∧ (oe.cls = .ref C ∧ oe.dict = some dx ∧ ∃ vs, oe.data = .fields vs) ∧ (F.F dx ∧ H dx = some (.xd [(("value" : Str), w)])) ∧ Rep K F H d w
def RepL (K : PySem.W.Frag) (F : Zo) (H : Hp) : List D → List V → Prop
  | [], vs => vs = []
  | d :: l, vs => ∃ v r, vs = v :: r ∧ Rep K F H d v ∧ RepL K F H l r
end

/-- what stands to be written -/
inductive M where
  | lst (l : List D)
  | dic (kvs : List (Key × D))
  | obj (C : Addr) (ns : List Str) (l : List D)
  | dkl (u : HO) (kvs : List (Key × D))

abbrev Mu := Addr → Option M
def updM (μ : Mu) (a : Addr) (m : M) : Mu := fun b => if b = a then some m else μ b
def delM (μ : Mu) (a : Addr) : Mu := fun b => if b = a then none else μ b

def Own (K : PySem.W.Frag) (F : Zo) (H : Hp) (a : Addr) : M → Prop
  | .lst l => ∃ vs, H a = some (.lst vs) ∧ RepL K F H l vs
  | .dic kvs => ∃ vs, H a = some (.dK ((kvs.map (·.1)).zip vs)) ∧ RepL K F H (kvs.map (·.2)) vs
  | .obj C ns l => ∃ dx vs, H a = some (.ins C dx (ns.zip vs)) ∧ ns.length = vs.length ∧ RepL K F H l vs
  | .dkl u kvs => ∃ o vs, H a = some u ∧ u = .frz o (.dK ((kvs.map (·.1)).zip vs)) ∧ RepL K F H (kvs.map (·.2)) vs

structure Ext (F : Zo) (H : Hp) (F' : Zo) (H' : Hp) : Prop where
  f : ∀ a, F.F a → F'.F a
  g : ∀ a, F.G a → F'.G a
  h : ∀ a, F.G a → H' a = H a
  o : ∀ a, F.G a → F'.F a → F.F a
theorem Ext.refl (F : Zo) (H : Hp) : Ext F H F H := ⟨fun _ h => h, fun _ h => h, fun _ _ => rfl, fun _ _ h => h⟩
theorem Ext.trans {F F1 F2 : Zo} {H H1 H2 : Hp} (a : Ext F H F1 H1) (b : Ext F1 H1 F2 H2) : Ext F H F2 H2 :=
  ⟨fun x h => b.f x (a.f x h), fun x h => b.g x (a.g x h), fun x h => (b.h x (a.g x h)).trans (a.h x h), fun x h k => a.o x h (b.o x (a.g x h) k)⟩
theorem Ext.hf {F F' : Zo} {H H' : Hp} (e : Ext F H F' H') {a : Addr} (h : F.F a) : H' a = H a := e.h a (F.sub a h)

structure Org where
  F : Zo
  H : Hp
structure Hd (K : PySem.W.Frag) (O : Org) (F : Zo) (H : Hp) (μ : Mu) : Prop where
  org : Ext O.F O.H F H
  fr : ∀ a, F.G a → H a ≠ none
  own : ∀ a m, μ a = some m → ¬ F.G a ∧ Own K F H a m

/-- what Rep leans on -/
structure Le (F : Zo) (H : Hp) (F' : Zo) (H' : Hp) : Prop where
  f : ∀ a, F.F a → F'.F a
  hf : ∀ {a}, F.F a → H' a = H a
theorem Ext.le {F F' : Zo} {H H' : Hp} (e : Ext F H F' H') : Le F H F' H' := ⟨e.f, fun h => e.hf h⟩

section
variable {O : Org} {K : PySem.W.Frag} {F F' : Zo} {H H' : Hp}
theorem FzT.mv {a : Addr} {vs : List V} (e : Le F H F' H') (h : FzT K F H a vs) : FzT K F' H' a vs := by
  rcases h with ⟨h1, h2⟩ | h
  · refine .inl ⟨e.f _ h1, ?_⟩
    unfold Rd at h2 ⊢
    rw [e.hf h1]; exact h2
  · exact .inr h
theorem FzR.mv {a : Addr} {vs : List V} (e : Le F H F' H') (h : FzR K F H a vs) : FzR K F' H' a vs := by
  rcases h with ⟨h1, h2⟩ | h
  · refine .inl ⟨e.f _ h1, ?_⟩
    unfold Rd at h2 ⊢
    rw [e.hf h1]; exact h2
  · exact .inr h
mutual
theorem Rep.mv (e : Le F H F' H') : ∀ (d : D) (v : V), Rep K F H d v → Rep K F' H' d v
  | .non, _, h => h
  | .bl _, _, h => h
  | .int _, _, h => h
  | .str _, _, h => h
  | .adr _, _, h => h
  | .typ _, _, h => h
  | .tup l, _, ⟨a, vs, h1, h2, h3⟩ => ⟨a, vs, h1, h2.mv e, RepL.mv e l vs h3⟩
  | .lst l, _, ⟨a, vs, h1, ⟨h2, h4⟩, h3⟩ => ⟨a, vs, h1, ⟨e.f _ h2, (e.hf h2).trans h4⟩, RepL.mv e l vs h3⟩
  | .rol l, _, ⟨a, vs, h1, h2, h3⟩ => ⟨a, vs, h1, h2.mv e, RepL.mv e l vs h3⟩
  | .ins _ _ l, _, ⟨a, dx, vs, h1, ⟨h2, h4⟩, h5, h3⟩ => ⟨a, dx, vs, h1, ⟨e.f _ h2, (e.hf h2).trans h4⟩, h5, RepL.mv e l vs h3⟩
  | .exc _ d, _, ⟨a, oe, dx, w, h1, ⟨h2, h3⟩, h4, ⟨h5, h6⟩, h7⟩ => ⟨a, oe, dx, w, h1, ⟨e.f _ h2, (e.hf h2).trans h3⟩, h4, ⟨e.f _ h5, (e.hf h5).trans h6⟩, Rep.mv e d w h7⟩
theorem RepL.mv (e : Le F H F' H') : ∀ (l : List D) (vs : List V), RepL K F H l vs → RepL K F' H' l vs
  | [], _, h => h
  | d :: l, _, ⟨v, r, h1, h2, h3⟩ => ⟨v, r, h1, Rep.mv e d v h2, RepL.mv e l r h3⟩
end
theorem Rep.ext (e : Ext F H F' H') (d : D) (v : V) (h : Rep K F H d v) : Rep K F' H' d v := Rep.mv e.le d v h
theorem RepL.ext (e : Ext F H F' H') (l : List D) (vs : List V) (h : RepL K F H l vs) : RepL K F' H' l vs := RepL.mv e.le l vs h
theorem FzT.ext {a : Addr} {vs : List V} (e : Ext F H F' H') (h : FzT K F H a vs) : FzT K F' H' a vs := h.mv e.le
theorem FzR.ext {a : Addr} {vs : List V} (e : Ext F H F' H') (h : FzR K F H a vs) : FzR K F' H' a vs := h.mv e.le
theorem RepL.length : ∀ {l : List D} {vs : List V}, RepL K F H l vs → l.length = vs.length
  | [], _, h => by
    have h : _ = _ := h
    rw [h]; rfl
  | d :: l, _, ⟨v, r, h1, h2, h3⟩ => by rw [h1, List.length_cons, List.length_cons, RepL.length h3]
theorem RepL.cons {d : D} {l : List D} {v : V} {vs : List V} (h : Rep K F H d v) (r : RepL K F H l vs) : RepL K F H (d :: l) (v :: vs) := ⟨v, vs, rfl, h, r⟩
theorem RepL.nil : RepL K F H [] [] := rfl
theorem RepL.append : ∀ {l m : List D} {vs ws : List V}, RepL K F H l vs → RepL K F H m ws → RepL K F H (l ++ m) (vs ++ ws)
  | [], m, vs, ws, h, k => by
    have h : vs = [] := h
    subst h; exact k
  | d :: l, m, _, ws, ⟨v, r, h1, h2, h3⟩, k => by
    subst h1
    exact .cons h2 (RepL.append h3 k)
theorem RepL.get : ∀ {l : List D} {vs : List V} {i : Nat} {d : D}, RepL K F H l vs → l[i]? = some d → ∃ v, vs[i]? = some v ∧ Rep K F H d v
  | [], _, _, _, _, e => by simp at e
  | d :: l, _, 0, _, ⟨v, r, h1, h2, h3⟩, e => by
    subst h1
    simp at e
    subst e
    exact ⟨v, rfl, h2⟩
  | d :: l, _, i + 1, _, ⟨v, r, h1, h2, h3⟩, e => by
    subst h1
    obtain ⟨u, q1, q2⟩ := RepL.get (i := i) h3 (by simpa using e)
    exact ⟨u, by simpa using q1, q2⟩
theorem RepL.get' : ∀ {l : List D} {vs : List V} {i : Nat} {v : V}, RepL K F H l vs → vs[i]? = some v → ∃ d, l[i]? = some d ∧ Rep K F H d v
  | [], vs, i, v, h, e => by
    have h : vs = [] := h
    subst h; simp at e
  | d :: l, _, 0, _, ⟨v, r, h1, h2, h3⟩, e => by
    subst h1
    simp at e
    subst e
    exact ⟨d, rfl, h2⟩
  | d :: l, _, i + 1, _, ⟨v, r, h1, h2, h3⟩, e => by
    subst h1
    obtain ⟨u, q1, q2⟩ := RepL.get' (i := i) h3 (by simpa using e)
    exact ⟨u, by simpa using q1, q2⟩
theorem RepL.set : ∀ {l : List D} {vs : List V} (i : Nat) {d : D} {v : V}, RepL K F H l vs → Rep K F H d v → RepL K F H (l.set i d) (vs.set i v)
  | [], vs, i, d, v, h, _ => by
    have h : vs = [] := h
    subst h; exact RepL.nil
  | _ :: l, _, 0, d, v, ⟨w, r, h1, h2, h3⟩, k => by
    subst h1; exact .cons k h3
  | _ :: l, _, i + 1, d, v, ⟨w, r, h1, h2, h3⟩, k => by
    subst h1; exact .cons h2 (RepL.set i h3 k)
theorem RepL.take : ∀ {l : List D} {vs : List V} (n : Nat), RepL K F H l vs → RepL K F H (l.take n) (vs.take n)
  | _, _, 0, _ => RepL.nil
  | [], vs, n + 1, h => by
    have h : vs = [] := h
    subst h; exact RepL.nil
  | _ :: l, _, n + 1, ⟨v, r, h1, h2, h3⟩ => by
    subst h1; exact .cons h2 (RepL.take n h3)
theorem RepL.drop : ∀ {l : List D} {vs : List V} (n : Nat), RepL K F H l vs → RepL K F H (l.drop n) (vs.drop n)
  | _, _, 0, h => h
  | [], vs, n + 1, h => by
    have h : vs = [] := h
    subst h; exact RepL.nil
  | _ :: l, _, n + 1, ⟨v, r, h1, h2, h3⟩ => by
    subst h1; exact RepL.drop n h3
theorem RepL.ints : ∀ {ns : List Int} {vs : List V}, RepL K F H (ns.map D.int) vs → vs = ns.map V.int
  | [], _, h => h
  | n :: ns, _, ⟨v, r, h1, h2, h3⟩ => by
    have h2 : v = V.int n := h2
    subst h1 h2
    rw [RepL.ints h3]; rfl
theorem RepL.of_ints : ∀ (ns : List Int), RepL K F H (ns.map D.int) (ns.map V.int)
  | [] => RepL.nil
  | n :: ns => .cons (show Rep K F H (.int n) (.int n) from rfl) (RepL.of_ints ns)
theorem Own.mv {a : Addr} {m : M} (e : Le F H F' H') (h : Own K F H a m) (ha : H' a = H a) : Own K F' H' a m := by
  cases m with
  | lst l => obtain ⟨vs, h1, h2⟩ := h; exact ⟨vs, ha.trans h1, h2.mv e⟩
  | dic kvs => obtain ⟨vs, h1, h2⟩ := h; exact ⟨vs, ha.trans h1, h2.mv e⟩
  | obj C ns l => obtain ⟨dx, vs, h1, h3, h2⟩ := h; exact ⟨dx, vs, ha.trans h1, h3, h2.mv e⟩
  | dkl u kvs => obtain ⟨o, vs, h1, h3, h2⟩ := h; exact ⟨o, vs, ha.trans h1, h3, h2.mv e⟩
theorem Own.ext {a : Addr} {m : M} (e : Ext F H F' H') (h : Own K F H a m) (ha : H' a = H a) : Own K F' H' a m := h.mv e.le ha
theorem Own.tracked {a : Addr} {m : M} (h : Own K F H a m) : H a ≠ none := by
  cases m with
  | lst l => obtain ⟨vs, h1, h2⟩ := h; rw [h1]; simp
  | dic kvs => obtain ⟨vs, h1, h2⟩ := h; rw [h1]; simp
  | obj C ns l => obtain ⟨dx, vs, h1, h2⟩ := h; rw [h1]; simp
  | dkl u kvs => obtain ⟨o, vs, h1, h2⟩ := h; rw [h1]; simp
variable {μ : Mu}
theorem Hd.free {p : Addr} (h : Hd K O F H μ) (hp : H p = none) : μ p = none := by
  cases e : μ p with
  | none => rfl
  | some m => exact absurd hp (h.own p m e).2.tracked
theorem Hd.nf {p : Addr} (h : Hd K O F H μ) (hp : H p = none) : ¬ F.G p := fun f => h.fr p f hp
/-- one object more that is frozen -/
def addF (F : Zo) (p : Addr) : Zo := ⟨fun a => F.F a ∨ a = p, fun a => F.G a ∨ a = p, fun a h => h.imp (F.sub a) id⟩
/-- one object more that is out of reach -/
def addG (F : Zo) (p : Addr) : Zo := ⟨F.F, fun a => F.G a ∨ a = p, fun a h => .inl (F.sub a h)⟩
def remG (F : Zo) (p : Addr) (h : ¬ F.F p) : Zo := ⟨F.F, fun a => F.G a ∧ a ≠ p, fun a k => ⟨F.sub a k, fun z => h (z ▸ k)⟩⟩
theorem ext_new {p : Addr} {o : HO} (h : Hd K O F H μ) (hp : H p = none) : Ext F H F (upd H p o) :=
  ⟨fun _ f => f, fun _ f => f, fun a f => upd_ne fun z => h.nf hp (z ▸ f), fun _ _ f => f⟩
theorem ext_newF {p : Addr} {o : HO} (h : Hd K O F H μ) (hp : H p = none) : Ext F H (addF F p) (upd H p o) :=
  ⟨fun _ f => .inl f, fun _ f => .inl f, fun a f => upd_ne fun z => h.nf hp (z ▸ f), fun a f k => k.elim id fun z => absurd (z ▸ f) (h.nf hp)⟩
/-- an object is laid and frozen at once -/
theorem Hd.newF {p : Addr} {o : HO} (h : Hd K O F H μ) (hp : H p = none) : Hd K O (addF F p) (upd H p o) μ := by
  refine ⟨h.org.trans (ext_newF h hp), fun a f => ?_, fun a m e => ?_⟩
  · rcases f with f | f
    · by_cases z : a = p
      · subst z; rw [upd_same]; simp
      · rw [upd_ne z]; exact h.fr a f
    · subst f; rw [upd_same]; simp
  · have z : a ≠ p := fun z => by rw [z, h.free hp] at e; cases e
    obtain ⟨h1, h2⟩ := h.own a m e
    exact ⟨fun f => f.elim h1 z, h2.ext (ext_newF h hp) (upd_ne z)⟩
/-- an object is laid, to be written -/
theorem Hd.newM {p : Addr} {o : HO} {m : M} (h : Hd K O F H μ) (hp : H p = none) (w : Own K F (upd H p o) p m) : Hd K O F (upd H p o) (updM μ p m) := by
  refine ⟨h.org.trans (ext_new h hp), fun a f => ?_, fun a m' e => ?_⟩
  · have z : a ≠ p := fun z => h.nf hp (z ▸ f)
    rw [upd_ne z]; exact h.fr a f
  · by_cases z : a = p
    · subst z
      have e : some m = some m' := (if_pos rfl).symm.trans e
      cases e
      exact ⟨h.nf hp, w⟩
    · have e : μ a = some m' := (if_neg z).symm.trans e
      obtain ⟨h1, h2⟩ := h.own a m' e
      exact ⟨h1, h2.ext (ext_new h hp) (upd_ne z)⟩
theorem ext_set {p : Addr} {o : HO} {m : M} (h : Hd K O F H μ) (hm : μ p = some m) : Ext F H F (upd H p o) :=
  ⟨fun _ f => f, fun _ f => f, fun a f => upd_ne fun z => (h.own p m hm).1 (z ▸ f), fun _ _ f => f⟩
/-- an object is written -/
theorem Hd.set {p : Addr} {o : HO} {m m' : M} (h : Hd K O F H μ) (hm : μ p = some m) (w : Own K F (upd H p o) p m') : Hd K O F (upd H p o) (updM μ p m') := by
  refine ⟨h.org.trans (ext_set h hm), fun a f => ?_, fun a m2 e => ?_⟩
  · have z : a ≠ p := fun z => (h.own p m hm).1 (z ▸ f)
    rw [upd_ne z]; exact h.fr a f
  · by_cases z : a = p
    · subst z
      have e : some m' = some m2 := (if_pos rfl).symm.trans e
      cases e
      exact ⟨(h.own a m hm).1, w⟩
    · have e : μ a = some m2 := (if_neg z).symm.trans e
      obtain ⟨h1, h2⟩ := h.own a m2 e
      exact ⟨h1, h2.ext (ext_set h hm) (upd_ne z)⟩
/-- an object is frozen -/
theorem Hd.frz {p : Addr} {m : M} (h : Hd K O F H μ) (hm : μ p = some m) : Hd K O (addF F p) H (delM μ p) ∧ Ext F H (addF F p) H := by
  have ex : Ext F H (addF F p) H := ⟨fun _ f => .inl f, fun _ f => .inl f, fun _ _ => rfl, fun a f k => k.elim id fun z => absurd (z ▸ f) (h.own p m hm).1⟩
  refine ⟨⟨h.org.trans ex, fun a f => ?_, fun a m2 e => ?_⟩, ex⟩
  · rcases f with f | f
    · exact h.fr a f
    · subst f; exact (h.own a m hm).2.tracked
  · have z : a ≠ p := fun z => by
      subst z
      have e : none = some m2 := (if_pos rfl).symm.trans e
      cases e
    have e : μ a = some m2 := (if_neg z).symm.trans e
    obtain ⟨h1, h2⟩ := h.own a m2 e
    exact ⟨fun f => f.elim h1 z, h2.ext ex rfl⟩
theorem Hd.sub {μ' : Mu} (h : Hd K O F H μ) (s : ∀ a m, μ' a = some m → μ a = some m) : Hd K O F H μ' := ⟨h.org, h.fr, fun a m e => h.own a m (s a m e)⟩
end

/-! ### the writables -/
def Sub (μ' μ : Mu) : Prop := ∀ a m, μ' a = some m → μ a = some m
theorem Sub.refl (μ : Mu) : Sub μ μ := fun _ _ h => h
theorem Sub.trans {a b c : Mu} (h : Sub a b) (k : Sub b c) : Sub a c := fun x m e => k x m (h x m e)
theorem Sub.new {μ μ' : Mu} {p : Addr} {m : M} (s : Sub μ μ') (h : μ p = none) : Sub μ (updM μ' p m) := fun a m' e => by
  have z : a ≠ p := fun z => by rw [z, h] at e; cases e
  exact (if_neg z).trans (s a m' e)
theorem Sub.del {μ μ' : Mu} {p : Addr} (s : Sub μ μ') (h : μ p = none) : Sub μ (delM μ' p) := fun a m' e => by
  have z : a ≠ p := fun z => by rw [z, h] at e; cases e
  exact (if_neg z).trans (s a m' e)
@[simp] theorem updM_same (μ : Mu) (p : Addr) (m : M) : updM μ p m p = some m := if_pos rfl
theorem updM_ne {μ : Mu} {p a : Addr} {m : M} (h : a ≠ p) : updM μ p m a = μ a := if_neg h
@[simp] theorem updM_updM (μ : Mu) (p : Addr) (m m' : M) : updM (updM μ p m) p m' = updM μ p m' := by
  funext b; unfold updM; split <;> rfl
theorem updM_eta {μ : Mu} {p : Addr} {m : M} (h : μ p = some m) : updM μ p m = μ := by
  funext b; unfold updM; split
  · rename_i e; rw [e, h]
  · rfl
theorem delM_updM {μ : Mu} {p : Addr} (m : M) (h : μ p = none) : delM (updM μ p m) p = μ := by
  funext b; unfold delM updM; split
  · rename_i e; rw [e, h]
  · rfl
theorem updM_comm {μ : Mu} {p r : Addr} {m m' : M} (h : p ≠ r) : updM (updM μ p m) r m' = updM (updM μ r m') p m := by
  funext b; unfold updM
  by_cases e1 : b = r
  · subst e1; rw [if_pos rfl, if_neg (fun z => h z.symm), if_pos rfl]
  · rw [if_neg e1]
    by_cases e2 : b = p
    · subst e2; rw [if_pos rfl, if_pos rfl]
    · rw [if_neg e2, if_neg e2, if_neg e1]

/-! ### readings over data -/
abbrev DS := List (Option D)
abbrev DK := D → Mu → Prop
abbrev DTE := DS → Mu → DK → Prop
abbrev DTT := DS → Mu → (Bool → Mu → Prop) → Prop
abbrev DTA := DS → Mu → (List D → Mu → Prop) → Prop
structure DEnds where
  nx : DS → Mu → Prop
  rt : DK
  bk : DS → Mu → Prop := fun _ _ => False
  ct : DS → Mu → Prop := fun _ _ => False
abbrev DTS := DEnds → DS → Mu → Prop

/-- the slots -/
structure RepS (K : PySem.W.Frag) (F : Zo) (H : Hp) (δ : DS) (σ : St) : Prop where
  len : δ.length = σ.length
  at_ : ∀ (i : Nat) (d : D), δ[i]? = some (some d) → ∃ v, σ[i]? = some (some v) ∧ Rep K F H d v
section
variable {O : Org} {K : PySem.W.Frag} {F F' : Zo} {H H' : Hp} {δ : DS} {σ : St}
theorem RepS.ext (e : Ext F H F' H') (h : RepS K F H δ σ) : RepS K F' H' δ σ := ⟨h.len, fun i d q => let ⟨v, h1, h2⟩ := h.at_ i d q; ⟨v, h1, h2.ext e⟩⟩
theorem RepS.set (h : RepS K F H δ σ) {i : Nat} {d : D} {v : V} (r : Rep K F H d v) : RepS K F H (δ.set i (some d)) (σ.set i (some v)) := by
  refine ⟨by rw [List.length_set, List.length_set, h.len], fun j e q => ?_⟩
  by_cases z : j = i
  · subst z
    have hj : j < δ.length := by
      have := (List.getElem?_eq_some_iff.mp q).1
      rw [List.length_set] at this; exact this
    rw [List.getElem?_set_self hj] at q
    cases q
    exact ⟨v, List.getElem?_set_self (by rw [← h.len]; exact hj), r⟩
  · rw [List.getElem?_set_ne (Ne.symm z)] at q ⊢
    exact h.at_ j e q
end

structure LEnds (K : PySem.W.Frag) (O : Org) (F : Zo) (H : Hp) (E : DEnds) (Z : Ends) : Prop where
  nx : ∀ F' H' μ δ σ, Ext F H F' H' → Hd K O F' H' μ → RepS K F' H' δ σ → E.nx δ μ → Z.nx σ H'
  rt : ∀ F' H' μ d v, Ext F H F' H' → Hd K O F' H' μ → Rep K F' H' d v → E.rt d μ → Z.rt v H'
  bk : ∀ F' H' μ δ σ, Ext F H F' H' → Hd K O F' H' μ → RepS K F' H' δ σ → E.bk δ μ → Z.bk σ H'
  ct : ∀ F' H' μ δ σ, Ext F H F' H' → Hd K O F' H' μ → RepS K F' H' δ σ → E.ct δ μ → Z.ct σ H'
theorem LEnds.ext {K : PySem.W.Frag} {F F' : Zo} {H H' : Hp} {E : DEnds} {Z : Ends} (h : LEnds K O F H E Z) (e : Ext F H F' H') : LEnds K O F' H' E Z :=
  ⟨fun _ _ _ _ _ x => h.nx _ _ _ _ _ (e.trans x), fun _ _ _ _ _ x => h.rt _ _ _ _ _ (e.trans x), fun _ _ _ _ _ x => h.bk _ _ _ _ _ (e.trans x), fun _ _ _ _ _ x => h.ct _ _ _ _ _ (e.trans x)⟩

def LE (K : PySem.W.Frag) (O : Org) (t : DTE) : TE := fun σ H Q => ∃ F δ μ q, Hd K O F H μ ∧ RepS K F H δ σ ∧ t δ μ q ∧ ∀ F' H' μ' d v, Ext F H F' H' → Hd K O F' H' μ' → Rep K F' H' d v → q d μ' → Q v H'
def LT (K : PySem.W.Frag) (O : Org) (t : DTT) : TT := fun σ H Q => ∃ F δ μ q, Hd K O F H μ ∧ RepS K F H δ σ ∧ t δ μ q ∧ ∀ F' H' μ' b, Ext F H F' H' → Hd K O F' H' μ' → q b μ' → Q b H'
def LA (K : PySem.W.Frag) (O : Org) (t : DTA) : TA := fun σ H Q => ∃ F δ μ q, Hd K O F H μ ∧ RepS K F H δ σ ∧ t δ μ q ∧ ∀ F' H' μ' ds vs, Ext F H F' H' → Hd K O F' H' μ' → RepL K F' H' ds vs → q ds μ' → Q vs H'
def LS (K : PySem.W.Frag) (O : Org) (t : DTS) : TS := fun Z σ H => ∃ F δ μ E, Hd K O F H μ ∧ RepS K F H δ σ ∧ t E δ μ ∧ LEnds K O F H E Z
abbrev DTG := D → DS → Mu → (DS → Mu → Prop) → Prop
def LG (K : PySem.W.Frag) (O : Org) (t : DTG) : TG := fun v σ H Q => ∃ F d δ μ q, Hd K O F H μ ∧ RepS K F H δ σ ∧ Rep K F H d v ∧ t d δ μ q ∧ ∀ F' H' μ' δ' σ', Ext F H F' H' → Hd K O F' H' μ' → RepS K F' H' δ' σ' → q δ' μ' → Q σ' H'
abbrev DTGs := List D → DS → Mu → (DS → Mu → Prop) → Prop
def LGs (K : PySem.W.Frag) (O : Org) (t : DTGs) : TGs := fun vs σ H Q => ∃ F ds δ μ q, Hd K O F H μ ∧ RepS K F H δ σ ∧ RepL K F H ds vs ∧ t ds δ μ q ∧ ∀ F' H' μ' δ' σ', Ext F H F' H' → Hd K O F' H' μ' → RepS K F' H' δ' σ' → q δ' μ' → Q σ' H'

abbrev DE (O : Org) (X : Cx) (e : Expr) (t : DTE) : Prop := PE X e (LE X.K O t)
abbrev DT (O : Org) (X : Cx) (e : Expr) (t : DTT) : Prop := PT X e (LT X.K O t)
abbrev DW (O : Org) (X : Cx) (e : Expr) (t : DTT) : Prop := PW X e (LT X.K O t)
abbrev DA (O : Org) (X : Cx) (es : List Expr) (t : DTA) : Prop := PA X es (LA X.K O t)
abbrev DSt (O : Org) (X : Cx) (s : Stmt) (t : DTS) : Prop := PS X s (LS X.K O t)
abbrev DSs (O : Org) (X : Cx) (s : List Stmt) (t : DTS) : Prop := PSs X s (LS X.K O t)
abbrev DG (O : Org) (X : Cx) (e : Expr) (t : DTG) : Prop := PG X e (LG X.K O t)
abbrev DGs (O : Org) (X : Cx) (es : List Expr) (t : DTGs) : Prop := PGs X es (LGs X.K O t)

variable {O : Org}
theorem pe_weak {X : Cx} {e : Expr} {t t' : TE} (h : PE X e t) (w : ∀ σ H Q, t' σ H Q → t σ H Q) : PE X e t' := ⟨fun pins s σ H Q I q => h.run pins s σ H Q I (w σ H Q q)⟩
theorem pt_weak {X : Cx} {e : Expr} {t t' : TT} (h : PT X e t) (w : ∀ σ H Q, t' σ H Q → t σ H Q) : PT X e t' := ⟨fun pins s σ H Q I q => h.run pins s σ H Q I (w σ H Q q)⟩
theorem pw_weak {X : Cx} {e : Expr} {t t' : TT} (h : PW X e t) (w : ∀ σ H Q, t' σ H Q → t σ H Q) : PW X e t' := ⟨fun wh pins s σ H Q I q => h.run wh pins s σ H Q I (w σ H Q q)⟩
theorem pa_weak {X : Cx} {e : List Expr} {t t' : TA} (h : PA X e t) (w : ∀ σ H Q, t' σ H Q → t σ H Q) : PA X e t' := ⟨fun pos pins s σ H Q I q => h.run pos pins s σ H Q I (w σ H Q q)⟩
theorem ps_weak {X : Cx} {e : Stmt} {t t' : TS} (h : PS X e t) (w : ∀ Z σ H, t' Z σ H → t Z σ H) : PS X e t' := ⟨fun pins s σ H Z I q => h.run pins s σ H Z I (w Z σ H q)⟩
theorem pss_weak {X : Cx} {e : List Stmt} {t t' : TS} (h : PSs X e t) (w : ∀ Z σ H, t' Z σ H → t Z σ H) : PSs X e t' := ⟨fun pins s σ H Z I q => h.run pins s σ H Z I (w Z σ H q)⟩
theorem pg_weak {X : Cx} {e : Expr} {t t' : TG} (h : PG X e t) (w : ∀ v σ H Q, t' v σ H Q → t v σ H Q) : PG X e t' := ⟨fun pins s σ H v u Q I r q => h.run pins s σ H v u Q I r (w v σ H Q q)⟩
theorem pgs_weak {X : Cx} {e : List Expr} {t t' : TGs} (h : PGs X e t) (w : ∀ v σ H Q, t' v σ H Q → t v σ H Q) : PGs X e t' := ⟨fun pins s σ H v u Q I r q => h.run pins s σ H v u Q I r (w v σ H Q q)⟩

/-! ### names, constants, displays -/
section
variable {O : Org} {X : Cx} {a b : Expr} {ta tb tc : DTE} {pos : Pos}
def dVar (i : Nat) : DTE := fun δ μ q => match δ[i]? with | some (some d) => q d μ | _ => False
def dC (d : D) : DTE := fun _ μ q => q d μ
theorem de_of_var {e : Expr} {i : Nat} (h : PE X e (tVar i)) : DE O X e (dVar i) := pe_weak h fun σ H Q ⟨F, δ, μ, q, hd, rs, t, k⟩ => by
  unfold dVar at t
  split at t
  · rename_i d e
    obtain ⟨v, h1, h2⟩ := rs.at_ i d e
    exact ⟨v, h1, k F H μ d v (Ext.refl F H) hd h2 t⟩
  · exact t.elim
theorem dv (i : Nat) {x : Str} {pos : Pos} (hN : X.N[i]? = some x := by rfl) (hv : Vis X.env.scope x := by first | exact Or.inl rfl | exact Or.inr (Or.inl rfl) | exact Or.inr (Or.inr rfl)) (hd : (x == ("__debug__" : Str)) = false := by decide)
    (hcd : (x == ("__classdict__" : Str)) = false := by decide) : DE O X (.Name x pos) (dVar i) := de_of_var (pe_var hN hv hd hcd)
theorem de_of_c {e : Expr} {d : D} {v : V} (h : PE X e (tC v)) (r : ∀ F H, Rep X.K F H d v) : DE O X e (dC d) := pe_weak h fun σ H Q ⟨F, δ, μ, q, hd, rs, t, k⟩ =>
  k F H μ d v (Ext.refl F H) hd (r F H) t
theorem de_int {i : Int} {j} : DE O X (.Constant (.int i) j pos) (dC (.int i)) := de_of_c pe_int fun _ _ => rfl
theorem de_bl {i : Bool} {j} : DE O X (.Constant (.bool i) j pos) (dC (.bl i)) := de_of_c pe_bl fun _ _ => rfl
theorem de_non {j} : DE O X (.Constant .none j pos) (dC .non) := de_of_c pe_non fun _ _ => rfl
theorem de_str {x : Str} {j} : DE O X (.Constant (.str x) j pos) (dC (.str x)) := de_of_c pe_str fun _ _ => rfl
def dNil : DTA := fun _ μ q => q [] μ
def dCons (ta : DTE) (tr : DTA) : DTA := fun δ μ q => ta δ μ fun d μ1 => tr δ μ1 fun ds μ2 => q (d :: ds) μ2
theorem da_nil : DA O X [] dNil := pa_weak pa_nil fun σ H Q ⟨F, δ, μ, q, hd, rs, t, k⟩ => k F H μ [] [] (Ext.refl F H) hd RepL.nil t
theorem da_cons {es : List Expr} {tr : DTA} (ha : DE O X a ta) (hr : DA O X es tr) (hs : starEach (a :: es) X.env = (false, eval a X.env) :: starEach es X.env := by rfl) : DA O X (a :: es) (dCons ta tr) :=
  pa_weak (pa_cons ha hr hs) fun σ H Q ⟨F, δ, μ, q, hd, rs, t, k⟩ =>
    ⟨F, δ, μ, _, hd, rs, t, fun F1 H1 μ1 d v e1 hd1 r1 t1 => ⟨F1, δ, μ1, _, hd1, rs.ext e1, t1, fun F2 H2 μ2 ds vs e2 hd2 r2 t2 =>
      k F2 H2 μ2 _ _ (e1.trans e2) hd2 (.cons (r1.ext e2) r2) t2⟩⟩
def dTup (t : DTA) : DTE := fun δ μ q => t δ μ fun ds μ1 => ds.length ≤ sizeLine ∧ q (.tup ds) μ1
def dLst (t : DTA) : DTE := fun δ μ q => t δ μ fun ds μ1 => ds.length ≤ sizeLine ∧ q (.lst ds) μ1
/-- a list that is to be written -/
def dLstM (t : DTA) : DTE := fun δ μ q => t δ μ fun ds μ1 => ds.length ≤ sizeLine ∧ ∀ p, μ1 p = none → q (.adr p) (updM μ1 p (.lst ds))
variable {es : List Expr} {t : DTA}
theorem de_tup {k} (h : DA O X es t) : DE O X (.Tuple es k pos) (dTup t) := pe_weak (pe_tup h) fun σ H Q ⟨F, δ, μ, q, hd, rs, t, k⟩ =>
  ⟨F, δ, μ, _, hd, rs, t, fun F1 H1 μ1 ds vs e1 hd1 r1 ⟨hl, t1⟩ => ⟨by rw [← r1.length]; exact hl, fun p hp =>
    k _ _ μ1 (.tup ds) (.ref p) (e1.trans (ext_newF hd1 hp)) (hd1.newF hp) ⟨p, vs, rfl, .inl ⟨.inr rfl, .inl upd_same⟩, r1.ext (ext_newF hd1 hp)⟩ t1⟩⟩
theorem de_lst (h : DA O X es t) : DE O X (.List es pos) (dLst t) := pe_weak (pe_lst h) fun σ H Q ⟨F, δ, μ, q, hd, rs, t, k⟩ =>
  ⟨F, δ, μ, _, hd, rs, t, fun F1 H1 μ1 ds vs e1 hd1 r1 ⟨hl, t1⟩ => ⟨by rw [← r1.length]; exact hl, fun p hp =>
    k _ _ μ1 (.lst ds) (.ref p) (e1.trans (ext_newF hd1 hp)) (hd1.newF hp) ⟨p, vs, rfl, ⟨.inr rfl, upd_same⟩, r1.ext (ext_newF hd1 hp)⟩ t1⟩⟩
theorem de_lstM (h : DA O X es t) : DE O X (.List es pos) (dLstM t) := pe_weak (pe_lst h) fun σ H Q ⟨F, δ, μ, q, hd, rs, t, k⟩ =>
  ⟨F, δ, μ, _, hd, rs, t, fun F1 H1 μ1 ds vs e1 hd1 r1 ⟨hl, t1⟩ => ⟨by rw [← r1.length]; exact hl, fun p hp =>
    k _ _ _ (.adr p) (.ref p) (e1.trans (ext_new hd1 hp)) (hd1.newM (m := .lst ds) hp ⟨vs, upd_same, r1.ext (ext_new hd1 hp)⟩) rfl (t1 p (hd1.free hp))⟩⟩
end
end DL

set_option Elab.async false
set_option linter.all false
set_option maxRecDepth 100000
namespace DL
open PySem L2 PySem.Spec PyProof.Rows

/-! ### lists wherever they stand -/
def lstOf (μ : Mu) : D → Option (List D)
  | .lst l => some l
  | .rol l => some l
  | .adr p => match μ p with
    | some (.lst l) => some l
    | _ => none
  | _ => none
/-- a list that may be added to another -/
def catOf (μ : Mu) : D → Option (List D)
  | .lst l => some l
  | .adr p => match μ p with
    | some (.lst l) => some l
    | _ => none
  | _ => none
section
variable {O : Org} {K : PySem.W.Frag} {F F' : Zo} {H H' : Hp} {μ μ' : Mu} {d e : D} {v w : V} {l : List D}
theorem FzT.sq {a : Addr} {vs : List V} (h : FzT K F H a vs) : SqT K H a vs := h.elim (fun h => .inl h.2) fun h => h H
theorem FzR.sq {a : Addr} {vs : List V} (h : FzR K F H a vs) : SqL K H a vs := h.elim (fun h => .inl h.2) fun h => h H
theorem list_sq (hd : Hd K O F H μ) (r : Rep K F H d v) (e : lstOf μ d = some l) : ∃ a vs, v = .ref a ∧ SqL K H a vs ∧ RepL K F H l vs := by
  cases d <;> simp only [lstOf] at e <;> try cases e
  · rename_i p
    obtain rfl : v = .ref p := r
    split at e
    · rename_i m hm
      cases e
      obtain ⟨_, vs, h1, h2⟩ := hd.own p _ hm
      exact ⟨p, vs, rfl, SqL.of h1, h2⟩
    · cases e
  · obtain ⟨a, vs, h1, h2, h3⟩ := r
    exact ⟨a, vs, h1, SqL.of h2.2, h3⟩
  · obtain ⟨a, vs, h1, h2, h3⟩ := r
    exact ⟨a, vs, h1, h2.sq, h3⟩
theorem list_cat (hd : Hd K O F H μ) (r : Rep K F H d v) (e : catOf μ d = some l) : ∃ a vs, v = .ref a ∧ H a = some (.lst vs) ∧ RepL K F H l vs := by
  cases d <;> simp only [catOf] at e <;> try cases e
  · rename_i p
    obtain rfl : v = .ref p := r
    split at e
    · rename_i m hm
      cases e
      obtain ⟨_, vs, h1, h2⟩ := hd.own p _ hm
      exact ⟨p, vs, rfl, h1, h2⟩
    · cases e
  · obtain ⟨a, vs, h1, h2, h3⟩ := r
    exact ⟨a, vs, h1, h2.2, h3⟩
end

/-! ### operators -/
abbrev DR2 := D → D → Mu → DK → Prop
def OpD (K : PySem.W.Frag) (r : R2) (rd : DR2) : Prop := ∀ O F H μ x y v w q Q, Hd K O F H μ → Rep K F H x v → Rep K F H y w → rd x y μ q →
  (∀ F' H' μ' d u, Ext F H F' H' → Hd K O F' H' μ' → Rep K F' H' d u → q d μ' → Q u H') → r v w H Q
abbrev DU := D → Mu → DK → Prop
def UnD (K : PySem.W.Frag) (r : V → Hp → VK → Prop) (rd : DU) : Prop := ∀ O F H μ x v q Q, Hd K O F H μ → Rep K F H x v → rd x μ q →
  (∀ F' H' μ' d u, Ext F H F' H' → Hd K O F' H' μ' → Rep K F' H' d u → q d μ' → Q u H') → r v H Q
abbrev DC2 := List D → Mu → DK → Prop
def CallD (K : PySem.W.Frag) (r : List V → Hp → VK → Prop) (rd : DC2) : Prop := ∀ O F H μ ds vs q Q, Hd K O F H μ → RepL K F H ds vs → rd ds μ q →
  (∀ F' H' μ' d u, Ext F H F' H' → Hd K O F' H' μ' → Rep K F' H' d u → q d μ' → Q u H') → r vs H Q
def dOp (rd : DR2) (ta tb : DTE) : DTE := fun δ μ q => ta δ μ fun x μ1 => tb δ μ1 fun y μ2 => rd x y μ2 q
def dUn (rd : DU) (ta : DTE) : DTE := fun δ μ q => ta δ μ fun x μ1 => rd x μ1 q
def dTest (t : DTE) : DTT := fun δ μ q => t δ μ fun x μ1 => match x with | .bl b => q b μ1 | _ => False
section
variable {O : Org} {X : Cx} {a b c : Expr} {ta tb tc : DTE} {pos : Pos} {r r' : R2} {rd rd' : DR2}
theorem lop {K : PySem.W.Frag} (h : OpD K r rd) : ∀ σ H Q, LE K O (dOp rd ta tb) σ H Q → tOp r (LE K O ta) (LE K O tb) σ H Q := fun σ H Q ⟨F, δ, μ, q, hd, rs, t, k⟩ =>
  ⟨F, δ, μ, _, hd, rs, t, fun F1 H1 μ1 x v e1 hd1 r1 t1 => ⟨F1, δ, μ1, _, hd1, rs.ext e1, t1, fun F2 H2 μ2 y w e2 hd2 r2 t2 =>
    h O F2 H2 μ2 x y v w q Q hd2 (r1.ext e2) r2 t2 fun F' H' μ' d u e3 hd3 r3 t3 => k F' H' μ' d u ((e1.trans e2).trans e3) hd3 r3 t3⟩⟩
theorem de_op {op : Operator} (ho : OpR X (binaryOp op) r) (h : OpD X.K r rd) (ha : DE O X a ta) (hb : DE O X b tb) : DE O X (.BinOp a op b pos) (dOp rd ta tb) := pe_weak (pe_op ho ha hb) (lop h)
theorem de_un {op : UnaryOp} {r : V → Hp → VK → Prop} {rd : DU} (ho : UnR X (unaryOp op) r) (h : UnD X.K r rd) (ha : DE O X a ta) : DE O X (.UnaryOp op a pos) (dUn rd ta) :=
  pe_weak (pe_un ho ha) fun σ H Q ⟨F, δ, μ, q, hd, rs, t, k⟩ => ⟨F, δ, μ, _, hd, rs, t, fun F1 H1 μ1 x v e1 hd1 r1 t1 =>
    h O F1 H1 μ1 x v q Q hd1 r1 t1 fun F' H' μ' d u e3 hd3 r3 t3 => k F' H' μ' d u (e1.trans e3) hd3 r3 t3⟩
theorem de_cmp {op : CmpOp} (ho : OpR X (compareOp op) r) (h : OpD X.K r rd) (ha : DE O X a ta) (hb : DE O X b tb) (hm : behindInMarks op b = false) : DE O X (.Compare a [op] [b] pos) (dOp rd ta tb) := pe_weak (pe_cmpR ho ha hb hm) (lop h)
theorem ltest {K : PySem.W.Frag} {t : TE} {u : DTE} (h : ∀ σ H Q, LE K O u σ H Q → t σ H Q) : ∀ σ H Q, LT K O (dTest u) σ H Q → tTest t σ H Q := fun σ H Q ⟨F, δ, μ, q, hd, rs, t, k⟩ =>
  h σ H _ ⟨F, δ, μ, _, hd, rs, t, fun F1 H1 μ1 x v e1 hd1 r1 t1 => by
    cases x <;> first | exact False.elim t1 | skip
    rename_i b
    exact ⟨b, r1, k F1 H1 μ1 b e1 hd1 t1⟩⟩
theorem dt_cmp {op : CmpOp} (ho : OpR X (compareOp op) r) (h : OpD X.K r rd) (ha : DE O X a ta) (hb : DE O X b tb) (hm : behindInMarks op b = false) : DT O X (.Compare a [op] [b] pos) (dTest (dOp rd ta tb)) := pt_weak (pt_cmpR ho ha hb hm) (ltest (lop h))
/-- an expression that gives True or False -/
theorem dt_val (ha : DE O X a ta) (hb : PT X a (tB (LE X.K O ta))) : DT O X a (dTest ta) := pt_weak hb (fun σ H Q ⟨F, δ, μ, q, hd, rs, t, k⟩ => ⟨F, δ, μ, _, hd, rs, t, fun F1 H1 μ1 x v e1 hd1 r1 t1 => by
    cases x <;> first | exact False.elim t1 | skip
    rename_i b
    exact ⟨b, r1, k F1 H1 μ1 b e1 hd1 t1⟩⟩)
/-- a < b < c -/
def dChain (rd rd' : DR2) (ta tb tc : DTE) : DTE := fun δ μ q => ta δ μ fun x μ1 => tb δ μ1 fun y μ2 => rd x y μ2 fun z μ3 => match z with
  | .bl b => if b = true then tc δ μ3 fun u μ4 => rd' y u μ4 q else q (.bl false) μ3
  | _ => False
end
end DL

set_option Elab.async false
set_option linter.all false
set_option maxRecDepth 100000
namespace DL
open PySem L2 PySem.Spec PyProof.Rows

section
variable {O : Org} {X : Cx} {a b c : Expr} {ta tb tc : DTE} {pos : Pos} {r r' : R2} {rd rd' : DR2} {rest : List Expr} {tA tB' : DTT}
theorem lchain {K : PySem.W.Frag} (h : OpD K r rd) (h' : OpD K r' rd') : ∀ σ H Q, LE K O (dChain rd rd' ta tb tc) σ H Q → tChain r r' (LE K O ta) (LE K O tb) (LE K O tc) σ H Q := fun σ H Q ⟨F, δ, μ, q, hd, rs, t, k⟩ =>
  ⟨F, δ, μ, _, hd, rs, t, fun F1 H1 μ1 x v e1 hd1 r1 t1 => ⟨F1, δ, μ1, _, hd1, rs.ext e1, t1, fun F2 H2 μ2 y w e2 hd2 r2 t2 =>
    h O F2 H2 μ2 x y v w _ _ hd2 (r1.ext e2) r2 t2 fun F3 H3 μ3 z u e3 hd3 r3 t3 => by
      cases z <;> first | exact False.elim t3 | skip
      rename_i bz
      refine ⟨bz, r3, ?_⟩
      cases bz with
      | true =>
        dsimp only at t3
        rw [if_pos rfl] at t3
        rw [if_pos rfl]
        refine ⟨F3, δ, μ3, _, hd3, ((rs.ext e1).ext e2).ext e3, t3, fun F4 H4 μ4 u' v' e4 hd4 r4 t4 => ?_⟩
        exact h' O F4 H4 μ4 y u' w v' q Q hd4 ((r2.ext e3).ext e4) r4 t4 fun F' H' μ' d u e5 hd5 r5 t5 => k F' H' μ' d u ((((e1.trans e2).trans e3).trans e4).trans e5) hd5 r5 t5
      | false =>
        dsimp only at t3
        rw [if_neg Bool.false_ne_true] at t3
        rw [if_neg Bool.false_ne_true]
        exact k F3 H3 μ3 (.bl false) _ ((e1.trans e2).trans e3) hd3 rfl t3⟩⟩
theorem de_chain {op op' : CmpOp} (ho : OpR X (compareOp op) r) (ho' : OpR X (compareOp op') r') (h : OpD X.K r rd) (h' : OpD X.K r' rd') (ha : DE O X a ta) (hb : DE O X b tb) (hc : DE O X c tc)
    (hm : lastMarks [op, op'] [b, c] = false := by with_unfolding_all rfl) : DE O X (.Compare a [op, op'] [b, c] pos) (dChain rd rd' ta tb tc) := pe_weak (pe_chain ho ho' ha hb hc hm) (lchain h h')
theorem dt_chain {op op' : CmpOp} (ho : OpR X (compareOp op) r) (ho' : OpR X (compareOp op') r') (h : OpD X.K r rd) (h' : OpD X.K r' rd') (ha : DE O X a ta) (hb : DE O X b tb) (hc : DE O X c tc)
    (hm : lastMarks [op, op'] [b, c] = false := by with_unfolding_all rfl) : DT O X (.Compare a [op, op'] [b, c] pos) (dTest (dChain rd rd' ta tb tc)) := pt_weak (pt_chain ho ho' ha hb hc hm) (ltest (lchain h h'))

/-! ### and, or, not as tests -/
def dAnd (t u : DTT) : DTT := fun δ μ q => t δ μ fun b μ1 => if b = true then u δ μ1 q else q false μ1
def dOr (t u : DTT) : DTT := fun δ μ q => t δ μ fun b μ1 => if b = true then q true μ1 else u δ μ1 q
def dNot (t : DTT) : DTT := fun δ μ q => t δ μ fun b μ1 => q (!b) μ1
theorem dw_and1 (h : DT O X a tA) : DW O X (.BoolOp .And [a] pos) tA := pw_and1 h
theorem dw_or1 (h : DT O X a tA) : DW O X (.BoolOp .Or [a] pos) tA := pw_or1 h
theorem dw_and (ha : DT O X a tA) (hb : DW O X (.BoolOp .And (b :: rest) pos) tB') : DW O X (.BoolOp .And (a :: b :: rest) pos) (dAnd tA tB') := pw_weak (pw_and ha hb) fun σ H Q ⟨F, δ, μ, q, hd, rs, t, k⟩ =>
  ⟨F, δ, μ, _, hd, rs, t, fun F1 H1 μ1 b e1 hd1 t1 => by
    cases b with
    | true =>
      rw [if_pos rfl] at t1 ⊢
      exact ⟨F1, δ, μ1, q, hd1, rs.ext e1, t1, fun F2 H2 μ2 b e2 hd2 t2 => k F2 H2 μ2 b (e1.trans e2) hd2 t2⟩
    | false =>
      rw [if_neg Bool.false_ne_true] at t1 ⊢
      exact k F1 H1 μ1 false e1 hd1 t1⟩
theorem dw_or (ha : DT O X a tA) (hb : DW O X (.BoolOp .Or (b :: rest) pos) tB') : DW O X (.BoolOp .Or (a :: b :: rest) pos) (dOr tA tB') := pw_weak (pw_or ha hb) fun σ H Q ⟨F, δ, μ, q, hd, rs, t, k⟩ =>
  ⟨F, δ, μ, _, hd, rs, t, fun F1 H1 μ1 b e1 hd1 t1 => by
    cases b with
    | true =>
      rw [if_pos rfl] at t1 ⊢
      exact k F1 H1 μ1 true e1 hd1 t1
    | false =>
      rw [if_neg Bool.false_ne_true] at t1 ⊢
      exact ⟨F1, δ, μ1, q, hd1, rs.ext e1, t1, fun F2 H2 μ2 b e2 hd2 t2 => k F2 H2 μ2 b (e1.trans e2) hd2 t2⟩⟩
theorem dt_not (ha : DT O X a tA) : DT O X (.UnaryOp .Not a pos) (dNot tA) := pt_weak (pt_not ha) fun σ H Q ⟨F, δ, μ, q, hd, rs, t, k⟩ =>
  ⟨F, δ, μ, _, hd, rs, t, fun F1 H1 μ1 b e1 hd1 t1 => k F1 H1 μ1 (!b) e1 hd1 t1⟩
theorem dt_bool (ha : DE O X a ta) (he : ∀ whole, isTrue a X.env whole = (do let v ← whole; standAt a.pos; holding [v] (truthy v)) := by intro _; rfl) : DT O X a (dTest ta) := dt_val ha (pt_val ha he)
/-! ### as values: by truth -/
def truOf (μ : Mu) : D → Option Bool
  | .non => some false
  | .bl b => some b
  | .int i => some (i != 0)
  | .tup l => some (!l.isEmpty)
  | d => (lstOf μ d).map fun l => !l.isEmpty
theorem isEmpty_repL {K : PySem.W.Frag} {F : Zo} {H : Hp} {l : List D} {vs : List V} (h : RepL K F H l vs) : vs.isEmpty = l.isEmpty := by
  have := h.length
  cases l <;> cases vs <;> simp_all
theorem tru_rep {K : PySem.W.Frag} {F : Zo} {H : Hp} {μ : Mu} {d : D} {v : V} {b : Bool} (hd : Hd K O F H μ) (r : Rep K F H d v) (h : truOf μ d = some b) : TruV K v H b := by
  have lst : ∀ l : List D, lstOf μ d = some l → (!l.isEmpty) = b → TruV K v H b := fun l e q => by
    obtain ⟨a, vs, rfl, h2, h3⟩ := list_sq hd r e
    exact .inl ⟨vs, h2, by rw [isEmpty_repL h3]; exact q.symm⟩
  cases d with
  | non =>
    obtain rfl : v = .non := r
    simp [truOf] at h; exact h
  | bl b => obtain rfl : v = .bl b := r; simp [truOf] at h; exact h.symm
  | int i =>
    obtain rfl : v = .int i := r
    have h : some (i != 0) = some b := h
    exact (Option.some.inj h).symm
  | str x => simp [truOf, lstOf] at h
  | typ x => simp [truOf, lstOf] at h
  | ins _ _ _ => simp [truOf, lstOf] at h
  | exc _ _ => simp [truOf, lstOf] at h
  | tup l =>
    obtain ⟨a, vs, rfl, h2, h3⟩ := r
    have h : some (!l.isEmpty) = some b := h
    exact .inr (.inl ⟨vs, h2.sq, by rw [isEmpty_repL h3]; exact (Option.some.inj h).symm⟩)
  | lst l => exact lst l rfl (Option.some.inj h)
  | rol l => exact lst l rfl (Option.some.inj h)
  | adr p =>
    have h : (lstOf μ (.adr p)).map (fun l => !l.isEmpty) = some b := h
    cases e : lstOf μ (.adr p) with
    | none => rw [e] at h; cases h
    | some l => rw [e] at h; exact lst l e (Option.some.inj h)
def dTru (ta : DTE) : DTT := fun δ μ q => ta δ μ fun x μ1 => match truOf μ1 x with | some b => q b μ1 | none => False
theorem dt_truth (ha : DE O X a ta) (he : ∀ whole, isTrue a X.env whole = (do let v ← whole; standAt a.pos; holding [v] (truthy v)) := by intro _; rfl) : DT O X a (dTru ta) := pt_weak (pt_truth ha he) fun σ H Q ⟨F, δ, μ, q, hd, rs, t, k⟩ =>
  ⟨F, δ, μ, _, hd, rs, t, fun F1 H1 μ1 x v e1 hd1 r1 t1 => by
    cases h : truOf μ1 x with
    | none => rw [h] at t1; exact t1.elim
    | some b => rw [h] at t1; exact ⟨b, tru_rep hd1 r1 h, k F1 H1 μ1 b e1 hd1 t1⟩⟩
def dOrT (ta tb : DTE) : DTE := fun δ μ q => ta δ μ fun x μ1 => match truOf μ1 x with | some b => if b = true then q x μ1 else tb δ μ1 q | none => False
def dAndT (ta tb : DTE) : DTE := fun δ μ q => ta δ μ fun x μ1 => match truOf μ1 x with | some b => if b = true then tb δ μ1 q else q x μ1 | none => False
def dNotT (ta : DTE) : DTE := fun δ μ q => ta δ μ fun x μ1 => match truOf μ1 x with | some b => q (.bl (!b)) μ1 | none => False
theorem de_orT (ha : DE O X a ta) (hb : DE O X (.BoolOp .Or (b :: rest) pos) tb) : DE O X (.BoolOp .Or (a :: b :: rest) pos) (dOrT ta tb) := pe_weak (pe_orT ha hb) fun σ H Q ⟨F, δ, μ, q, hd, rs, t, k⟩ =>
  ⟨F, δ, μ, _, hd, rs, t, fun F1 H1 μ1 x v e1 hd1 r1 t1 => by
    cases h : truOf μ1 x with
    | none => rw [h] at t1; exact t1.elim
    | some b =>
      rw [h] at t1
      dsimp only at t1
      refine ⟨b, tru_rep hd1 r1 h, ?_⟩
      cases b with
      | true => rw [if_pos rfl] at t1 ⊢; exact k F1 H1 μ1 x v e1 hd1 r1 t1
      | false => rw [if_neg Bool.false_ne_true] at t1 ⊢; exact ⟨F1, δ, μ1, q, hd1, rs.ext e1, t1, fun F2 H2 μ2 d u e2 hd2 r2 t2 => k F2 H2 μ2 d u (e1.trans e2) hd2 r2 t2⟩⟩
theorem de_andT (ha : DE O X a ta) (hb : DE O X (.BoolOp .And (b :: rest) pos) tb) : DE O X (.BoolOp .And (a :: b :: rest) pos) (dAndT ta tb) := pe_weak (pe_andT ha hb) fun σ H Q ⟨F, δ, μ, q, hd, rs, t, k⟩ =>
  ⟨F, δ, μ, _, hd, rs, t, fun F1 H1 μ1 x v e1 hd1 r1 t1 => by
    cases h : truOf μ1 x with
    | none => rw [h] at t1; exact t1.elim
    | some b =>
      rw [h] at t1
      dsimp only at t1
      refine ⟨b, tru_rep hd1 r1 h, ?_⟩
      cases b with
      | true => rw [if_pos rfl] at t1 ⊢; exact ⟨F1, δ, μ1, q, hd1, rs.ext e1, t1, fun F2 H2 μ2 d u e2 hd2 r2 t2 => k F2 H2 μ2 d u (e1.trans e2) hd2 r2 t2⟩
      | false => rw [if_neg Bool.false_ne_true] at t1 ⊢; exact k F1 H1 μ1 x v e1 hd1 r1 t1⟩
theorem de_one {op} (h : DE O X a ta) : DE O X (.BoolOp op [a] pos) ta := pe_one h
theorem de_not (ha : DE O X a ta) : DE O X (.UnaryOp .Not a pos) (dNotT ta) := pe_weak (pe_notT ha) fun σ H Q ⟨F, δ, μ, q, hd, rs, t, k⟩ =>
  ⟨F, δ, μ, _, hd, rs, t, fun F1 H1 μ1 x v e1 hd1 r1 t1 => by
    cases h : truOf μ1 x with
    | none => rw [h] at t1; exact t1.elim
    | some b => rw [h] at t1; exact ⟨b, tru_rep hd1 r1 h, k F1 H1 μ1 (.bl (!b)) _ e1 hd1 rfl t1⟩⟩
def dIf (c : DTT) (ta tb : DTE) : DTE := fun δ μ q => c δ μ fun b μ1 => if b = true then ta δ μ1 q else tb δ μ1 q
theorem de_if (hc : DT O X c tA) (ha : DE O X a ta) (hb : DE O X b tb) : DE O X (.IfExp c a b pos) (dIf tA ta tb) := pe_weak (pe_ifExp hc ha hb) fun σ H Q ⟨F, δ, μ, q, hd, rs, t, k⟩ =>
  ⟨F, δ, μ, _, hd, rs, t, fun F1 H1 μ1 b e1 hd1 t1 => by
    cases b with
    | true =>
      rw [if_pos rfl] at t1 ⊢
      exact ⟨F1, δ, μ1, q, hd1, rs.ext e1, t1, fun F2 H2 μ2 d u e2 hd2 r2 t2 => k F2 H2 μ2 d u (e1.trans e2) hd2 r2 t2⟩
    | false =>
      rw [if_neg Bool.false_ne_true] at t1 ⊢
      exact ⟨F1, δ, μ1, q, hd1, rs.ext e1, t1, fun F2 H2 μ2 d u e2 hd2 r2 t2 => k F2 H2 μ2 d u (e1.trans e2) hd2 r2 t2⟩⟩
end

/-! ### the operators over data -/
def rI0D (g : Int → Int → D) : DR2 := fun x y μ q => match x, y with | .int i, .int j => q (g i j) μ | _, _ => False
def rID (C : Int → Int → Prop) (g : Int → Int → D) : DR2 := fun x y μ q => match x, y with | .int i, .int j => C i j ∧ q (g i j) μ | _, _ => False
section
variable {O : Org} {K : PySem.W.Frag} {X : Cx}
theorem od_I0 {g : Int → Int → V} {gd : Int → Int → D} (h : ∀ i j F H, Rep K F H (gd i j) (g i j)) : OpD K (rI0 g) (rI0D gd) := by
  intro O F H μ x y v w q Q hd rx ry t k
  cases x <;> cases y <;> first | exact False.elim t | skip
  rename_i i j
  obtain rfl : v = .int i := rx
  obtain rfl : w = .int j := ry
  exact ⟨i, j, rfl, rfl, k F H μ _ _ (Ext.refl F H) hd (h i j F H) t⟩
theorem od_I {C C' : Int → Int → Prop} {g : Int → Int → V} {gd : Int → Int → D} (h : ∀ i j F H, Rep K F H (gd i j) (g i j)) (hc : ∀ i j, C' i j → C i j) : OpD K (rI C g) (rID C' gd) := by
  intro O F H μ x y v w q Q hd rx ry t k
  cases x <;> cases y <;> first | exact False.elim t | skip
  rename_i i j
  obtain rfl : v = .int i := rx
  obtain rfl : w = .int j := ry
  exact ⟨i, j, rfl, rfl, hc i j t.1, k F H μ _ _ (Ext.refl F H) hd (h i j F H) t.2⟩
theorem OpD.or {r r' : R2} {rd rd' : DR2} (h : OpD K r rd) (h' : OpD K r' rd') : OpD K (fun x y H Q => r x y H Q ∨ r' x y H Q) (fun x y μ q => rd x y μ q ∨ rd' x y μ q) := by
  intro O F H μ x y v w q Q hd rx ry t k
  rcases t with t | t
  · exact .inl (h O F H μ x y v w q Q hd rx ry t k)
  · exact .inr (h' O F H μ x y v w q Q hd rx ry t k)
theorem OpD.imp {r : R2} {rd rd' : DR2} (h : OpD K r rd) (i : ∀ x y μ q, rd' x y μ q → rd x y μ q) : OpD K r rd' := fun O F H μ x y v w q Q hd rx ry t k => h O F H μ x y v w q Q hd rx ry (i x y μ q t) k
/-- the text line -/
def rAddS : DR2 := fun x y μ q => match x, y with | .str i, .str j => i.length + j.length ≤ sizeLine ∧ q (.str (i ++ j)) μ | _, _ => False
def rAddT : DR2 := fun x y μ q => match x, y with | .tup l, .tup m => l ≠ [] ∧ l.length + m.length ≤ sizeLine ∧ q (.tup (l ++ m)) μ | _, _ => False
def rAddL : DR2 := fun x y μ q => ∃ l m, catOf μ x = some l ∧ catOf μ y = some m ∧ l.length + m.length ≤ sizeLine ∧ q (.lst (l ++ m)) μ
/-- the sum is to be written -/
def rAddM : DR2 := fun x y μ q => ∃ l m, catOf μ x = some l ∧ catOf μ y = some m ∧ l.length + m.length ≤ sizeLine ∧ ∀ p, μ p = none → q (.adr p) (updM μ p (.lst (l ++ m)))
theorem od_addS : OpD K (fun x y H Q => ∃ i j, x = .str i ∧ y = .str j ∧ i.length + j.length ≤ sizeLine ∧ Q (.str (i ++ j)) H) rAddS := by
  intro O F H μ x y v w q Q hd rx ry t k
  cases x <;> cases y <;> first | exact False.elim t | skip
  rename_i i j
  obtain rfl : v = .str i := rx
  obtain rfl : w = .str j := ry
  exact ⟨i, j, rfl, rfl, t.1, k F H μ _ _ (Ext.refl F H) hd (show Rep K F H (.str (i ++ j)) (.str (i ++ j)) from rfl) t.2⟩
theorem od_addT : OpD K (rCatT K) rAddT := by
  intro O F H μ x y v w q Q hd rx ry t k
  cases x <;> cases y <;> first | exact False.elim t | skip
  rename_i l m
  obtain ⟨a, vs, rfl, h1, h2⟩ := rx
  obtain ⟨b, ws, rfl, h3, h4⟩ := ry
  obtain ⟨t1, t2, t3⟩ := t
  have e1 := h2.length
  have e2 := h4.length
  refine ⟨a, b, vs, ws, rfl, rfl, h1.sq, h3.sq, ?_, by omega, ?_, ?_⟩
  · intro z; subst z; apply t1; cases l with
    | nil => rfl
    | cons _ _ => simp at e1
  · intro z
    subst z
    cases m with
    | nil =>
      rw [List.append_nil] at t3
      exact k F H μ (.tup l) _ (Ext.refl F H) hd ⟨a, vs, rfl, h1, h2⟩ t3
    | cons _ _ => simp at e2
  · intro _ p hp
    exact k _ _ μ (.tup (l ++ m)) (.ref p) (ext_newF hd hp) (hd.newF hp) ⟨p, vs ++ ws, rfl, .inl ⟨.inr rfl, .inl upd_same⟩, (h2.append h4).ext (ext_newF hd hp)⟩ t3
theorem od_addL : OpD K rCat rAddL := by
  intro O F H μ x y v w q Q hd rx ry ⟨l, m, e1, e2, t2, t3⟩ k
  obtain ⟨a, vs, rfl, h1, h2⟩ := list_cat hd rx e1
  obtain ⟨b, ws, rfl, h3, h4⟩ := list_cat hd ry e2
  have e1 := h2.length
  have e2 := h4.length
  exact ⟨a, b, vs, ws, rfl, rfl, h1, h3, by omega, fun p hp => k _ _ μ (.lst (l ++ m)) (.ref p) (ext_newF hd hp) (hd.newF hp) ⟨p, vs ++ ws, rfl, ⟨.inr rfl, upd_same⟩, (h2.append h4).ext (ext_newF hd hp)⟩ t3⟩
theorem od_addM : OpD K rCat rAddM := by
  intro O F H μ x y v w q Q hd rx ry ⟨l, m, e1, e2, t2, t3⟩ k
  obtain ⟨a, vs, rfl, h1, h2⟩ := list_cat hd rx e1
  obtain ⟨b, ws, rfl, h3, h4⟩ := list_cat hd ry e2
  have e1 := h2.length
  have e2 := h4.length
  exact ⟨a, b, vs, ws, rfl, rfl, h1, h3, by omega, fun p hp => k _ _ _ (.adr p) (.ref p) (ext_new hd hp) (hd.newM (m := .lst (l ++ m)) hp ⟨vs ++ ws, upd_same, (h2.append h4).ext (ext_new hd hp)⟩) rfl (t3 p (hd.free hp))⟩
/-- a + b: whole numbers, texts, tuples, lists -/
def rAddD : DR2 := fun x y μ q => match x, y with
  | .int i, .int j => q (.int (i + j)) μ
  | .str i, .str j => i.length + j.length ≤ sizeLine ∧ q (.str (i ++ j)) μ
  | .tup l, .tup m => l ≠ [] ∧ l.length + m.length ≤ sizeLine ∧ q (.tup (l ++ m)) μ
  | .lst l, .lst m => l.length + m.length ≤ sizeLine ∧ q (.lst (l ++ m)) μ
  | x, y => rAddL x y μ q
theorem op_addA : OpR X (binaryOp .Add) (fun x y H Q => (rI0 fun i j => .int (i + j)) x y H Q ∨ (fun x y H Q => (fun x y H Q => ∃ i j, x = .str i ∧ y = .str j ∧ i.length + j.length ≤ sizeLine ∧ Q (.str (i ++ j)) H) x y H Q ∨ (fun x y H Q => rCatT X.K x y H Q ∨ rCat x y H Q) x y H Q) x y H Q) :=
  op_add.or (op_add_str.or (op_catT.or op_cat))
theorem od_addA : OpD K (fun x y H Q => (rI0 fun i j => .int (i + j)) x y H Q ∨ (fun x y H Q => (fun x y H Q => ∃ i j, x = .str i ∧ y = .str j ∧ i.length + j.length ≤ sizeLine ∧ Q (.str (i ++ j)) H) x y H Q ∨ (fun x y H Q => rCatT K x y H Q ∨ rCat x y H Q) x y H Q) x y H Q) rAddD := by
  refine OpD.imp ((od_I0 (gd := fun i j => .int (i + j)) fun i j F H => (show Rep K F H (.int _) _ from rfl)).or (od_addS.or (od_addT.or od_addL))) fun x y μ q t => ?_
  unfold rAddD at t
  split at t
  · exact .inl t
  · exact .inr (.inl t)
  · exact .inr (.inr (.inl t))
  · exact .inr (.inr (.inr ⟨_, _, rfl, rfl, t.1, t.2⟩))
  · exact .inr (.inr (.inr t))
theorem de_add {a b : Expr} {ta tb : DTE} {pos : Pos} (ha : DE O X a ta) (hb : DE O X b tb) : DE O X (.BinOp a .Add b pos) (dOp rAddD ta tb) := de_op op_addA od_addA ha hb
theorem de_addM {a b : Expr} {ta tb : DTE} {pos : Pos} (ha : DE O X a ta) (hb : DE O X b tb) : DE O X (.BinOp a .Add b pos) (dOp rAddM ta tb) := de_op op_cat od_addM ha hb
theorem rep_int {F : Zo} {H : Hp} {i : Int} : Rep K F H (.int i) (.int i) := rfl
theorem rep_bl {F : Zo} {H : Hp} {i : Bool} : Rep K F H (.bl i) (.bl i) := rfl
def rSubD : DR2 := rI0D fun i j => .int (i - j)
theorem de_sub {a b : Expr} {ta tb : DTE} {pos : Pos} (ha : DE O X a ta) (hb : DE O X b tb) : DE O X (.BinOp a .Sub b pos) (dOp rSubD ta tb) := de_op op_sub (od_I0 fun _ _ _ _ => rep_int) ha hb
/-- numbers of so many bits -/
def CMulD (i j : Int) : Prop := ∃ a b : Nat, i.natAbs < 2 ^ a ∧ j.natAbs < 2 ^ b ∧ a + b ≤ 134217728
def rMulD : DR2 := rID CMulD fun i j => .int (i * j)
theorem de_mul {a b : Expr} {ta tb : DTE} {pos : Pos} (ha : DE O X a ta) (hb : DE O X b tb) : DE O X (.BinOp a .Mult b pos) (dOp rMulD ta tb) := de_op op_mulX (od_I (fun _ _ _ _ => rep_int) fun _ _ ⟨_, _, h1, h2, h3⟩ => mulx_ok h1 h2 h3) ha hb
def CDivD (i j : Int) : Prop := 0 < j ∧ ∃ b : Nat, j.natAbs < 2 ^ b ∧ 0 < b ∧ b ≤ 9000
def rDivD : DR2 := rID CDivD fun i j => .int (i / j)
theorem de_fdiv {a b : Expr} {ta tb : DTE} {pos : Pos} (ha : DE O X a ta) (hb : DE O X b tb) : DE O X (.BinOp a .FloorDiv b pos) (dOp rDivD ta tb) := de_op op_fdivW (od_I (fun _ _ _ _ => rep_int) fun _ _ ⟨h1, _, h2, h3, h4⟩ => wide_div h1 h2 h3 h4) ha hb
def CModD (_ j : Int) : Prop := 0 < j
def rModD : DR2 := rID CModD fun i j => .int (i % j)
theorem de_mod {a b : Expr} {ta tb : DTE} {pos : Pos} (ha : DE O X a ta) (hb : DE O X b tb) : DE O X (.BinOp a .Mod b pos) (dOp rModD ta tb) := de_op op_mod (od_I (fun _ _ _ _ => rep_int) fun _ _ h => h) ha hb
/-- a ** b of numbers of any size -/
def CPowW (i j : Int) : Prop := 0 ≤ j ∧ (Builtin.Int.intBits i : Int) * j ≤ 2 ^ 27
theorem op_powW : OpR X (binaryOp .Pow) (rI CPowW fun i j => .int (i ^ j.toNat)) := opI fun _ _ _ _ _ _ _ hc q => pow_int hc.1 hc.2 q
theorem bits_le {i : Int} {n : Nat} (h : i.natAbs < 2 ^ n) : (Builtin.Int.intBits i : Int) ≤ n := by
  unfold Builtin.Int.intBits
  split
  · omega
  · rename_i hi
    have h0 : i.natAbs ≠ 0 := by
      intro z
      apply hi
      have : i = 0 := Int.natAbs_eq_zero.mp z
      simp [this]
    have : i.natAbs.log2 < n := (Nat.log2_lt h0).mpr h
    omega
def CPowD (i j : Int) : Prop := 0 ≤ j ∧ ∃ a : Nat, i.natAbs < 2 ^ a ∧ (a : Int) * j ≤ 134217728
def rPowD : DR2 := rID CPowD fun i j => .int (i ^ j.toNat)
theorem de_pow {a b : Expr} {ta tb : DTE} {pos : Pos} (ha : DE O X a ta) (hb : DE O X b tb) : DE O X (.BinOp a .Pow b pos) (dOp rPowD ta tb) := de_op op_powW (od_I (fun _ _ _ _ => rep_int) fun i j ⟨h1, a, h2, h3⟩ => by
  refine ⟨h1, ?_⟩
  have h4 := bits_le h2
  have h5 : (Builtin.Int.intBits i : Int) * j ≤ (a : Int) * j := Int.mul_le_mul_of_nonneg_right h4 h1
  have h6 : (2 : Int) ^ 27 = 134217728 := by decide
  rw [h6]
  omega) ha hb
def rNegD : DU := fun x μ q => match x with | .int i => q (.int (-i)) μ | _ => False
theorem de_neg {a : Expr} {ta : DTE} {pos : Pos} (ha : DE O X a ta) : DE O X (.UnaryOp .USub a pos) (dUn rNegD ta) := de_un un_neg (fun O F H μ x v q Q hd rx t k => by
  cases x <;> first | exact False.elim t | skip
  rename_i i
  obtain rfl : v = .int i := rx
  exact ⟨i, rfl, k F H μ _ _ (Ext.refl F H) hd rep_int t⟩) ha
/-! comparisons -/
def rLtD : DR2 := rI0D fun i j => .bl (decide (i < j))
def rLeD : DR2 := rI0D fun i j => .bl (decide (i ≤ j))
def rGtD : DR2 := rI0D fun i j => .bl (decide (j < i))
def rGeD : DR2 := rI0D fun i j => .bl (decide (j ≤ i))
theorem od_lt : OpD K (rI0 fun i j => .bl (decide (i < j))) rLtD := od_I0 fun _ _ _ _ => rep_bl
theorem od_le : OpD K (rI0 fun i j => .bl (decide (i ≤ j))) rLeD := od_I0 fun _ _ _ _ => rep_bl
theorem od_gt : OpD K (rI0 fun i j => .bl (decide (j < i))) rGtD := od_I0 fun _ _ _ _ => rep_bl
theorem od_ge : OpD K (rI0 fun i j => .bl (decide (j ≤ i))) rGeD := od_I0 fun _ _ _ _ => rep_bl
end
end DL

set_option Elab.async false
set_option linter.all false
set_option maxRecDepth 100000
namespace DL
open PySem L2 PySem.Spec PyProof.Rows

/-! ### data that == compares -/
mutual
def pyD : D → PyData
  | .bl b => .bool b
  | .int i => .int i
  | .str x => .str x
  | .tup l => .tuple (pyDs l)
  | .lst l => .list (pyDs l)
  | .rol l => .list (pyDs l)
  | _ => .none
def pyDs : List D → List PyData
  | [] => []
  | d :: l => pyD d :: pyDs l
end
mutual
/-- data, of a depth at most k -/
def plainD : Nat → D → Bool
  | _, .non => true
  | _, .bl _ => true
  | _, .int _ => true
  | _, .str x => PyData.strOk x
  | k + 1, .tup l => plainDs k l
  | k + 1, .lst l => plainDs k l
  | k + 1, .rol l => plainDs k l
  | _, _ => false
def plainDs : Nat → List D → Bool
  | _, [] => true
  | k, d :: l => plainD k d && plainDs k l
end
theorem plainDs_iff {k : Nat} : ∀ {l : List D}, plainDs k l = true ↔ ∀ d ∈ l, plainD k d = true
  | [] => by simp [plainDs]
  | d :: l => by simp [plainDs, plainDs_iff (l := l)]
theorem pyDs_map : ∀ l : List D, pyDs l = l.map pyD
  | [] => rfl
  | d :: l => by rw [pyDs, pyDs_map l]; rfl
def nrm (μ : Mu) : D → D
  | .adr p => match μ p with
    | some (.lst l) => .lst l
    | _ => .adr p
  | d => d
section
variable {O : Org} {K : PySem.W.Frag} {F F' : Zo} {H H' : Hp} {μ μ' : Mu}
mutual
theorem dp_of {k : Nat} : ∀ (d : D) (v : V), plainD k d = true → Rep K F H d v → Dp K H v (pyD d)
  | .non, v, _, h => by obtain rfl : v = .non := h; exact .non
  | .bl b, v, _, h => by obtain rfl : v = .bl b := h; exact .bl b
  | .int b, v, _, h => by obtain rfl : v = .int b := h; exact .int b
  | .str b, v, _, h => by obtain rfl : v = .str b := h; exact .str b
  | .adr _, _, p, _ => by simp [plainD] at p
  | .typ _, _, p, _ => by simp [plainD] at p
  | .ins _ _ _, _, p, _ => by simp [plainD] at p
  | .exc _ _, _, p, _ => by simp [plainD] at p
  | .tup l, v, p, ⟨a, vs, h1, h2, h3⟩ => by
    subst h1
    cases k with
    | zero => simp [plainD] at p
    | succ k => exact .tup h2.sq (dps_of l vs p h3)
  | .lst l, v, p, ⟨a, vs, h1, h2, h3⟩ => by
    subst h1
    cases k with
    | zero => simp [plainD] at p
    | succ k => exact .lst (SqL.of h2.2) (dps_of l vs p h3)
  | .rol l, v, p, ⟨a, vs, h1, h2, h3⟩ => by
    subst h1
    cases k with
    | zero => simp [plainD] at p
    | succ k => exact .lst h2.sq (dps_of l vs p h3)
theorem dps_of {k : Nat} : ∀ (l : List D) (vs : List V), plainDs k l = true → RepL K F H l vs → DpAll K H vs (pyDs l)
  | [], vs, _, h => by
    obtain rfl : vs = [] := h
    exact .nil
  | d :: l, _, p, ⟨v, r, h1, h2, h3⟩ => by
    subst h1
    have p : (plainD k d && plainDs k l) = true := p
    rw [Bool.and_eq_true] at p
    exact .cons (dp_of d v p.1 h2) (dps_of l r p.2 h3)
end
mutual
theorem plain_lay {k : Nat} : ∀ (d : D), plainD k d = true → (pyD d).canLay0 = true ∧ (pyD d).depth ≤ k
  | .non, _ => ⟨rfl, Nat.zero_le _⟩
  | .bl b, _ => ⟨rfl, Nat.zero_le _⟩
  | .int b, _ => ⟨rfl, Nat.zero_le _⟩
  | .str b, p => ⟨p, Nat.zero_le _⟩
  | .adr _, p => by simp [plainD] at p
  | .typ _, p => by simp [plainD] at p
  | .ins _ _ _, p => by simp [plainD] at p
  | .exc _ _, p => by simp [plainD] at p
  | .tup l, p => by
    cases k with
    | zero => simp [plainD] at p
    | succ k => exact let h := plain_lays l p; ⟨h.1, Nat.succ_le_succ h.2⟩
  | .lst l, p => by
    cases k with
    | zero => simp [plainD] at p
    | succ k => exact let h := plain_lays l p; ⟨h.1, Nat.succ_le_succ h.2⟩
  | .rol l, p => by
    cases k with
    | zero => simp [plainD] at p
    | succ k => exact let h := plain_lays l p; ⟨h.1, Nat.succ_le_succ h.2⟩
theorem plain_lays {k : Nat} : ∀ (l : List D), plainDs k l = true → PyData.canLayAll0 (pyDs l) = true ∧ PyData.depthAll (pyDs l) ≤ k
  | [], _ => ⟨rfl, Nat.zero_le _⟩
  | d :: l, p => by
    have p : (plainD k d && plainDs k l) = true := p
    rw [Bool.and_eq_true] at p
    obtain ⟨h1, h2⟩ := plain_lay d p.1
    obtain ⟨h3, h4⟩ := plain_lays l p.2
    refine ⟨?_, ?_⟩
    · show (PyData.canLay0 (pyD d) && PyData.canLayAll0 (pyDs l)) = true
      rw [h1, h3]; rfl
    · show max (PyData.depth (pyD d)) (PyData.depthAll (pyDs l)) ≤ k
      omega
end
theorem shaped_of {d : D} (p : plainD 64 d = true) : SeqAt.shaped (pyD d) = true := by
  obtain ⟨h1, h2⟩ := plain_lay d p
  unfold SeqAt.shaped
  rw [h1, decide_eq_true h2]; rfl
theorem nrm_rep {d : D} {v : V} (hd : Hd K O F H μ) (p : plainD 64 (nrm μ d) = true) (r : Rep K F H d v) : Dp K H v (pyD (nrm μ d)) := by
  cases d with
  | adr a =>
    obtain rfl : v = .ref a := r
    cases hm : μ a with
    | none => simp [nrm, hm, plainD] at p
    | some m =>
      cases m with
      | lst l =>
        have e : nrm μ (.adr a) = .lst l := by simp [nrm, hm]
        rw [e] at p ⊢
        have p : plainDs 63 l = true := p
        obtain ⟨_, vs, h1, h2⟩ := hd.own a _ hm
        exact .lst (SqL.of h1) (dps_of (k := 63) l vs p h2)
      | dic _ => simp [nrm, hm, plainD] at p
      | obj _ _ _ => simp [nrm, hm, plainD] at p
      | dkl _ _ => simp [nrm, hm, plainD] at p
  | _ => exact dp_of _ _ p r
end
/-- == as data -/
def eqD (x y : D) : Bool := PyData.eqv (pyD x) (pyD y)
theorem eqD_refl {k : Nat} {d : D} (p : plainD k d = true) : eqD d d = true := SeqAt.eqv_refl _ (plain_lay d p).1
theorem eqD_int (i j : Int) : eqD (.int i) (.int j) = decide (i = j) := by
  show (i == j) = decide (i = j)
  exact Bool.beq_eq_decide_eq i j
theorem eqD_str (i j : Str) : eqD (.str i) (.str j) = decide (i = j) := by
  show (i == j) = decide (i = j)
  exact Bool.beq_eq_decide_eq i j
theorem eqD_tup (l m : List D) : eqD (.tup l) (.tup m) = PyData.eqvAll (pyDs l) (pyDs m) := rfl
theorem eqD_lst (l m : List D) : eqD (.lst l) (.lst m) = PyData.eqvAll (pyDs l) (pyDs m) := rfl
theorem eqvAll_cons (d e : D) (l m : List D) : PyData.eqvAll (pyDs (d :: l)) (pyDs (e :: m)) = (eqD d e && PyData.eqvAll (pyDs l) (pyDs m)) := rfl
def rEqG : DR2 := fun x y μ q => match x, y with
  | .int i, .int j => q (.bl (decide (i = j))) μ
  | .str i, .str j => q (.bl (decide (i = j))) μ
  | x, y => plainD 64 (nrm μ x) = true ∧ plainD 64 (nrm μ y) = true ∧ q (.bl (eqD (nrm μ x) (nrm μ y))) μ
def rNeG : DR2 := fun x y μ q => match x, y with
  | .int i, .int j => q (.bl (!decide (i = j))) μ
  | .str i, .str j => q (.bl (!decide (i = j))) μ
  | x, y => plainD 64 (nrm μ x) = true ∧ plainD 64 (nrm μ y) = true ∧ q (.bl (!eqD (nrm μ x) (nrm μ y))) μ
section
variable {O : Org} {K : PySem.W.Frag} {X : Cx} {a b : Expr} {ta tb : DTE} {pos : Pos}
theorem op_eqA (hu : X.A.units + 64 < cLine) : OpR X (compareOp .Eq) (fun x y H Q => rEq x y H Q ∨ rEqD X.K x y H Q) := op_eq.or (op_eqD hu)
theorem op_neA (hu : X.A.units + 64 < cLine) : OpR X (compareOp .NotEq) (fun x y H Q => rNe x y H Q ∨ rNeD X.K x y H Q) := op_ne.or (op_neD hu)
theorem decV_int (i j : Int) : decide (V.int i = V.int j) = decide (i = j) := by
  by_cases h : i = j
  · subst h; simp
  · rw [decide_eq_false h, decide_eq_false fun e => h (V.int.inj e)]
theorem decV_str (i j : Str) : decide (V.str i = V.str j) = decide (i = j) := by
  by_cases h : i = j
  · subst h; simp
  · rw [decide_eq_false h, decide_eq_false fun e => h (V.str.inj e)]
theorem od_eqA : OpD K (fun x y H Q => rEq x y H Q ∨ rEqD K x y H Q) rEqG := by
  intro O F H μ x y v w q Q hd rx ry t k
  unfold rEqG at t
  split at t
  · rename_i i j
    obtain rfl : v = .int i := rx
    obtain rfl : w = .int j := ry
    exact .inl ⟨rfl, k F H μ (.bl (decide (i = j))) _ (Ext.refl F H) hd (by rw [decV_int]; exact rep_bl) t⟩
  · rename_i i j
    obtain rfl : v = .str i := rx
    obtain rfl : w = .str j := ry
    exact .inl ⟨rfl, k F H μ (.bl (decide (i = j))) _ (Ext.refl F H) hd (by rw [decV_str]; exact rep_bl) t⟩
  · obtain ⟨t1, t2, t3⟩ := t
    exact .inr ⟨_, _, nrm_rep hd t1 rx, nrm_rep hd t2 ry, shaped_of t1, shaped_of t2, k F H μ _ _ (Ext.refl F H) hd rep_bl t3⟩
theorem od_neA : OpD K (fun x y H Q => rNe x y H Q ∨ rNeD K x y H Q) rNeG := by
  intro O F H μ x y v w q Q hd rx ry t k
  unfold rNeG at t
  split at t
  · rename_i i j
    obtain rfl : v = .int i := rx
    obtain rfl : w = .int j := ry
    exact .inl ⟨rfl, k F H μ (.bl (!decide (i = j))) _ (Ext.refl F H) hd (by rw [decV_int]; exact rep_bl) t⟩
  · rename_i i j
    obtain rfl : v = .str i := rx
    obtain rfl : w = .str j := ry
    exact .inl ⟨rfl, k F H μ (.bl (!decide (i = j))) _ (Ext.refl F H) hd (by rw [decV_str]; exact rep_bl) t⟩
  · obtain ⟨t1, t2, t3⟩ := t
    exact .inr ⟨_, _, nrm_rep hd t1 rx, nrm_rep hd t2 ry, shaped_of t1, shaped_of t2, k F H μ _ _ (Ext.refl F H) hd rep_bl t3⟩
/-- is None -/
def isNonD : D → Bool
  | .non => true
  | _ => false
def rIsNG : DR2 := fun x y μ q => match y with | .non => q (.bl (isNonD x)) μ | _ => False
def rNotNG : DR2 := fun x y μ q => match y with | .non => q (.bl (!isNonD x)) μ | _ => False
theorem isNon_rep {F : Zo} {H : Hp} {d : D} {v : V} (r : Rep K F H d v) : decide (v = V.non) = isNonD d := by
  cases d <;> first
    | (have r : v = _ := r; subst r; rfl)
    | (obtain ⟨a, vs, rfl, _⟩ := r; rfl)
    | (obtain ⟨a, dx, vs, rfl, _⟩ := r; rfl)
    | (obtain ⟨a, oe, dx, w, rfl, _⟩ := r; rfl)
theorem od_isN : OpD K (fun x y H Q => y = .non ∧ Q (.bl (decide (x = .non))) H) rIsNG := by
  intro O F H μ x y v w q Q hd rx ry t k
  cases y <;> first | exact False.elim t | skip
  obtain rfl : w = .non := ry
  exact ⟨rfl, k F H μ (.bl (isNonD x)) _ (Ext.refl F H) hd (by rw [isNon_rep rx]; exact rep_bl) t⟩
theorem od_notN : OpD K (fun x y H Q => y = .non ∧ Q (.bl (!decide (x = .non))) H) rNotNG := by
  intro O F H μ x y v w q Q hd rx ry t k
  cases y <;> first | exact False.elim t | skip
  obtain rfl : w = .non := ry
  exact ⟨rfl, k F H μ (.bl (!isNonD x)) _ (Ext.refl F H) hd (by rw [isNon_rep rx]; exact rep_bl) t⟩

/-! ### items -/
/-- xs[i], i an int in its bounds: of a list, a tuple, a text -/
def rIxG : DR2 := fun x y μ q => match y with
  | .int i => match x with
    | .tup l => match atI l i with | some d => q d μ | none => False
    | .str z => z.length ≤ sizeLine ∧ match atI z.cps.toList i with | some c => q (.str ⟨#[c]⟩) μ | none => False
    | .adr p => ∃ l d, μ p = some (.lst l) ∧ atI l i = some d ∧ q d μ
    | x => match lstOf μ x with
      | some l => match atI l i with | some d => q d μ | none => False
      | none => False
  | _ => False
theorem atI_rep {F : Zo} {H : Hp} {l : List D} {vs : List V} {i : Int} {d : D} (r : RepL K F H l vs) (h : atI l i = some d) : ∃ v, atI vs i = some v ∧ Rep K F H d v := by
  unfold atI at h ⊢
  rw [← r.length]
  cases e : ixN l.length i with
  | none => rw [e] at h; simp at h
  | some j =>
    rw [e] at h
    have h : l[j]? = some d := by simpa using h
    obtain ⟨v, h1, h2⟩ := r.get h
    exact ⟨v, by simpa using h1, h2⟩
theorem od_ix : OpD K (rIx K) rIxG := by
  intro O F H μ x y v w q Q hd rx ry t k
  unfold rIxG at t
  split at t
  · rename_i i
    obtain rfl : w = .int i := ry
    split at t
    · rename_i l
      obtain ⟨a, vs, rfl, h1, h2⟩ := rx
      split at t
      · rename_i d e
        obtain ⟨u, e1, e2⟩ := atI_rep h2 e
        exact .inr (.inl ⟨a, vs, i, u, rfl, rfl, h1.sq, e1, k F H μ d u (Ext.refl F H) hd e2 t⟩)
      · exact t.elim
    · rename_i z
      obtain rfl : v = .str z := rx
      obtain ⟨t1, t⟩ := t
      split at t
      · rename_i c e
        exact .inr (.inr ⟨z, i, c, rfl, rfl, t1, e, k F H μ _ _ (Ext.refl F H) hd (show Rep K F H (.str _) (.str _) from rfl) t⟩)
      · exact t.elim
    · obtain ⟨l, d, hm, e, t⟩ := t
      rename_i p
      obtain ⟨a, vs, rfl, h1, h2⟩ := list_sq hd rx (show lstOf μ (.adr p) = some l by show (match μ p with | some (.lst l) => some l | _ => none) = some l; rw [hm])
      obtain ⟨u, e1, e2⟩ := atI_rep h2 e
      exact .inl ⟨a, vs, i, u, rfl, rfl, h1, e1, k F H μ d u (Ext.refl F H) hd e2 t⟩
    · split at t
      · rename_i l e0
        obtain ⟨a, vs, rfl, h1, h2⟩ := list_sq hd rx e0
        split at t
        · rename_i d e
          obtain ⟨u, e1, e2⟩ := atI_rep h2 e
          exact .inl ⟨a, vs, i, u, rfl, rfl, h1, e1, k F H μ d u (Ext.refl F H) hd e2 t⟩
        · exact t.elim
      · exact t.elim
  · exact t.elim
theorem de_ix (ha : DE O X a ta) (hb : DE O X b tb) (hs : PlainIx b := by exact fun _ _ => rfl) : DE O X (.Subscript a b pos) (dOp rIxG ta tb) := pe_weak (pe_ix ix_seq ha hb hs) (lop od_ix)
end
/-! ### slices -/
abbrev DTO := DS → Mu → (Option Int → Mu → Prop) → Prop
def LO (K : PySem.W.Frag) (O : Org) (t : DTO) : TO := fun σ H Q => ∃ F δ μ q, Hd K O F H μ ∧ RepS K F H δ σ ∧ t δ μ q ∧ ∀ F' H' μ' o, Ext F H F' H' → Hd K O F' H' μ' → q o μ' → Q o H'
abbrev DO (O : Org) (X : Cx) (e : Option Expr) (t : DTO) : Prop := PO X e (LO X.K O t)
def dNoPart : DTO := fun _ μ q => q none μ
def dPart (t : DTE) : DTO := fun δ μ q => t δ μ fun x μ1 => match x with | .int i => q (some i) μ1 | _ => False
/-- l[lo:hi] -/
def cutD (l : List D) (lo hi : Option Int) : List D := (l.drop (HT.sIx l.length 0 lo)).take (HT.sIx l.length l.length hi - HT.sIx l.length 0 lo)
section
variable {O : Org} {K : PySem.W.Frag} {X : Cx} {a b e : Expr} {ta tb te : DTE} {pos p2 : Pos} {lo hi : Option Expr} {tl tu : DTO}
theorem do_none : DO O X none dNoPart := ⟨fun pins s σ H Q I ⟨F, δ, μ, q, hd, rs, t, k⟩ => po_none.run pins s σ H Q I (k F H μ none (Ext.refl F H) hd t)⟩
theorem do_some (h : DE O X e te) : DO O X (some e) (dPart te) := ⟨fun pins s σ H Q I ⟨F, δ, μ, q, hd, rs, t, k⟩ => (po_some h).run pins s σ H Q I ⟨F, δ, μ, _, hd, rs, t, fun F1 H1 μ1 x v e1 hd1 r1 t1 => by
  cases x <;> first | exact False.elim t1 | skip
  rename_i i
  exact ⟨i, r1, k F1 H1 μ1 (some i) e1 hd1 t1⟩⟩⟩
theorem cut_rep {F : Zo} {H : Hp} {l : List D} {vs : List V} {lo hi : Option Int} (r : RepL K F H l vs) : RepL K F H (cutD l lo hi) (cutV vs lo hi) := by
  unfold cutD cutV
  rw [← r.length]
  exact (r.drop _).take _
def rSlG (x : D) (lo hi : Option Int) (μ : Mu) (q : DK) : Prop := match x with
  | .tup l => if HT.sIx l.length 0 lo = 0 ∧ HT.sIx l.length l.length hi = l.length then False else q (.tup (cutD l lo hi)) μ
  | x => match lstOf μ x with | some l => q (.lst (cutD l lo hi)) μ | none => False
def dSl (te : DTE) (tl tu : DTO) : DTE := fun δ μ q => te δ μ fun x μ1 => tl δ μ1 fun l μ2 => tu δ μ2 fun u μ3 => rSlG x l u μ3 q
theorem de_sl (he : DE O X e te) (hl : DO O X lo tl) (hu : DO O X hi tu) : DE O X (.Subscript e (.Slice lo hi none p2) pos) (dSl te tl tu) :=
  pe_weak (pe_slice (sl_list.or sl_tup) he hl hu) fun σ H Q ⟨F, δ, μ, q, hd, rs, t, k⟩ =>
  ⟨F, δ, μ, _, hd, rs, t, fun F1 H1 μ1 x v e1 hd1 r1 t1 => ⟨F1, δ, μ1, _, hd1, rs.ext e1, t1, fun F2 H2 μ2 o e2 hd2 t2 => ⟨F2, δ, μ2, _, hd2, (rs.ext e1).ext e2, t2, fun F3 H3 μ3 o' e3 hd3 t3 => by
    have r3 := (r1.ext e2).ext e3
    have E := (e1.trans e2).trans e3
    unfold rSlG at t3
    split at t3
    · rename_i l
      obtain ⟨a, vs, rfl, h1, h2⟩ := r3
      split at t3
      · exact t3.elim
      · rename_i hne
        refine .inr ⟨a, vs, rfl, h1.sq, by rw [← h2.length]; exact hne, fun p hp => ?_⟩
        exact k _ _ μ3 (.tup (cutD l o o')) (.ref p) (E.trans (ext_newF hd3 hp)) (hd3.newF hp) ⟨p, _, rfl, .inl ⟨.inr rfl, .inl upd_same⟩, (cut_rep h2).ext (ext_newF hd3 hp)⟩ t3
    · split at t3
      · rename_i l e0
        obtain ⟨a, vs, rfl, h1, h2⟩ := list_sq hd3 r3 e0
        refine .inl ⟨a, vs, rfl, h1, fun p hp => ?_⟩
        exact k _ _ μ3 (.lst (cutD l o o')) (.ref p) (E.trans (ext_newF hd3 hp)) (hd3.newF hp) ⟨p, _, rfl, ⟨.inr rfl, upd_same⟩, (cut_rep h2).ext (ext_newF hd3 hp)⟩ t3
      · exact t3.elim⟩⟩⟩
end
end DL

set_option Elab.async false
set_option linter.all false
set_option maxRecDepth 100000
namespace DL
open PySem L2 PySem.Spec PyProof.Rows

/-! ### targets: the slots that they store -/
structure Agr (ws : List Nat) (σ σ' : L2.St) : Prop where
  len : σ'.length = σ.length
  at_ : ∀ (i : Nat), i ∉ ws → σ'[i]? = σ[i]?
theorem Agr.refl (ws : List Nat) (σ : L2.St) : Agr ws σ σ := ⟨rfl, fun _ _ => rfl⟩
theorem Agr.trans {ws : List Nat} {a b c : L2.St} (h : Agr ws a b) (k : Agr ws b c) : Agr ws a c := ⟨k.len.trans h.len, fun i hi => (k.at_ i hi).trans (h.at_ i hi)⟩
theorem Agr.mono {ws vs : List Nat} {a b : L2.St} (h : Agr ws a b) (k : ∀ i ∈ ws, i ∈ vs) : Agr vs a b := ⟨h.len, fun i hi => h.at_ i fun z => hi (k i z)⟩
theorem Agr.set (σ : L2.St) (i : Nat) (v : Option V) : Agr [i] σ (σ.set i v) := ⟨List.length_set .., fun j hj => List.getElem?_set_ne (by simpa using Ne.symm (show ¬ j = i by simpa using hj))⟩
theorem wipe_get {σ : L2.St} {i : Nat} : ∀ {vs : List Nat}, i ∈ vs → i < σ.length → (wipe σ vs)[i]? = some none
  | v :: vs, h, hl => by
    unfold wipe
    by_cases e : v = i
    · subst e; rw [List.getElem?_set_self (by rw [wipe_length]; exact hl)]
    · rw [List.getElem?_set_ne e]
      rcases List.mem_cons.mp h with z | z
      · exact absurd z.symm e
      · exact wipe_get z hl
theorem wipe_notin {σ : L2.St} {i : Nat} : ∀ {vs : List Nat}, i ∉ vs → (wipe σ vs)[i]? = σ[i]?
  | [], _ => rfl
  | v :: vs, h => by
    have h : ¬ i = v ∧ i ∉ vs := by simpa using h
    unfold wipe
    rw [List.getElem?_set_ne fun z => h.1 z.symm]
    exact wipe_notin h.2
theorem wipe_agr {σ σ' : L2.St} {vs : List Nat} (h : Agr vs σ σ') : wipe σ' vs = wipe σ vs := by
  apply List.ext_getElem?
  intro i
  by_cases hi : i ∈ vs
  · by_cases hl : i < σ.length
    · rw [wipe_get hi hl, wipe_get hi (by rw [h.len]; exact hl)]
    · rw [List.getElem?_eq_none (by rw [wipe_length, h.len]; omega), List.getElem?_eq_none (by rw [wipe_length]; omega)]
  · rw [wipe_notin hi, wipe_notin hi, h.at_ i hi]
theorem wipe_wipe (σ : L2.St) (vs : List Nat) : wipe (wipe σ vs) vs = wipe σ vs := wipe_agr ⟨wipe_length σ vs, fun _ hi => wipe_notin hi⟩
def wipeD (δ : DS) : List Nat → DS
  | [] => δ
  | v :: vs => (wipeD δ vs).set v none
theorem RepS.wipe {K : PySem.W.Frag} {F : Zo} {H : Hp} {δ : DS} {σ : L2.St} (h : RepS K F H δ σ) : ∀ vs : List Nat, RepS K F H (wipeD δ vs) (wipe σ vs)
  | [] => h
  | v :: vs => by
    have ih := RepS.wipe h vs
    unfold wipeD L2.wipe
    refine ⟨by rw [List.length_set, List.length_set, ih.len], fun i d e => ?_⟩
    by_cases z : v = i
    · subst z
      by_cases hl : v < (wipeD δ vs).length
      · rw [List.getElem?_set_self hl] at e; cases e
      · rw [List.getElem?_eq_none (by rw [List.length_set]; omega)] at e; cases e
    · rw [List.getElem?_set_ne z] at e ⊢
      exact ih.at_ i d e

def LGw (K : PySem.W.Frag) (O : Org) (ws : List Nat) (t : DTG) : TG := fun v σ H Q => ∃ F d δ μ q, Hd K O F H μ ∧ RepS K F H δ σ ∧ Rep K F H d v ∧ t d δ μ q ∧ ∀ F' H' μ' δ' σ', Ext F H F' H' → Hd K O F' H' μ' → RepS K F' H' δ' σ' → Agr ws σ σ' → q δ' μ' → Q σ' H'
def LGsw (K : PySem.W.Frag) (O : Org) (ws : List Nat) (t : DTGs) : TGs := fun vs σ H Q => ∃ F ds δ μ q, Hd K O F H μ ∧ RepS K F H δ σ ∧ RepL K F H ds vs ∧ t ds δ μ q ∧ ∀ F' H' μ' δ' σ', Ext F H F' H' → Hd K O F' H' μ' → RepS K F' H' δ' σ' → Agr ws σ σ' → q δ' μ' → Q σ' H'
abbrev DGw (O : Org) (X : Cx) (e : Expr) (ws : List Nat) (t : DTG) : Prop := PG X e (LGw X.K O ws t)
abbrev DGsw (O : Org) (X : Cx) (es : List Expr) (ws : List Nat) (t : DTGs) : Prop := PGs X es (LGsw X.K O ws t)
def dgName (i : Nat) : DTG := fun d δ μ q => q (δ.set i (some d)) μ
def dgNil : DTGs := fun ds δ μ q => match ds with | [] => q δ μ | _ => False
def dgCons (t : DTG) (u : DTGs) : DTGs := fun ds δ μ q => match ds with | d :: r => t d δ μ fun δ' μ' => u r δ' μ' q | [] => False
def dgTup (n : Nat) (t : DTGs) : DTG := fun d δ μ q => match d with
  | .tup l => l.length = n ∧ t l δ μ q
  | d => match lstOf μ d with | some l => l.length = n ∧ t l δ μ q | none => False
/-- o[i] = .. of a list that is written, of a dict -/
def dgItem (to ti : DTE) : DTG := fun d δ μ q => to δ μ fun o μ1 => ti δ μ1 fun i μ2 => match o, i with
  | .adr p, .int k => ∃ l j, μ2 p = some (.lst l) ∧ ixN l.length k = some j ∧ q δ (updM μ2 p (.lst (l.set j d)))
  | _, _ => False
section
variable {O : Org} {X : Cx} {pos : Pos} {e : Expr} {es : List Expr} {ws us : List Nat} {t : DTG} {u : DTGs}
theorem dg_name {i : Nat} {x : Str} (hN : X.N.Nodup) (hi : X.N[i]? = some x) (hx : Loc X.env.scope x) (hf : X.fn x = true ∨ X.env.scope.names.lookup x = some .local := by first | exact .inl rfl | exact .inr rfl | assumption) : DGw O X (.Name x pos) [i] (dgName i) :=
  pg_weak (pg_name hN hi hx hf) fun v σ H Q ⟨F, d, δ, μ, q, hd, rs, r, t, k⟩ => k F H μ _ _ (Ext.refl F H) hd (rs.set r) (Agr.set σ i _) t
theorem dgs_nil : DGsw O X [] [] dgNil := pgs_weak pgs_nil fun vs σ H Q ⟨F, ds, δ, μ, q, hd, rs, r, t, k⟩ => by
  cases ds with
  | nil =>
    obtain rfl : vs = [] := r
    exact ⟨rfl, k F H μ δ σ (Ext.refl F H) hd rs (Agr.refl _ _) t⟩
  | cons _ _ => exact t.elim
theorem dgs_cons (h1 : DGw O X e ws t) (h2 : DGsw O X es us u) (hs : (assignEach (e :: es) X.env).map (·.2) = assign e X.env :: (assignEach es X.env).map (·.2) := by rfl) : DGsw O X (e :: es) (ws ++ us) (dgCons t u) :=
  pgs_weak (pgs_cons h1 h2 hs) fun vs σ H Q ⟨F, ds, δ, μ, q, hd, rs, r, t, k⟩ => by
  cases ds with
  | nil => exact t.elim
  | cons d ds =>
    obtain ⟨v, vr, rfl, r1, r2⟩ := r
    refine ⟨v, vr, rfl, F, d, δ, μ, _, hd, rs, r1, t, fun F1 H1 μ1 δ1 σ1 e1 hd1 rs1 a1 t1 => ?_⟩
    exact ⟨F1, ds, δ1, μ1, q, hd1, rs1, r2.ext e1, t1, fun F2 H2 μ2 δ2 σ2 e2 hd2 rs2 a2 t2 =>
      k F2 H2 μ2 δ2 σ2 (e1.trans e2) hd2 rs2 ((a1.mono fun i hi => List.mem_append_left _ hi).trans (a2.mono fun i hi => List.mem_append_right _ hi)) t2⟩
theorem pg_or {t1 t2 : TG} (h1 : PG X e t1) (h2 : PG X e t2) : PG X e (fun v σ H Q => t1 v σ H Q ∨ t2 v σ H Q) := ⟨fun pins s σ H v u Q I r q => q.elim (h1.run pins s σ H v u Q I r) (h2.run pins s σ H v u Q I r)⟩
theorem dg_tup {n : Nat} {k0 : Nat} (hc : X.calm = true) (h : DGsw O X es us u) (hn : (assignEach es X.env).length = n := by rfl) (hst : (assignEach es X.env).findIdx? (·.1) = none := by rfl) : DGw O X (.Tuple es k0 pos) us (dgTup n u) :=
  pg_weak (pg_or (pg_tup hc h hn hst) (pg_unl hc h hn hst)) fun v σ H Q ⟨F, d, δ, μ, q, hd, rs, r, t, k⟩ => by
    unfold dgTup at t
    split at t
    · rename_i l
      obtain ⟨a, vs, rfl, h1, h2⟩ := r
      exact .inl ⟨a, vs, rfl, h1.sq, by rw [← h2.length]; exact t.1, F, l, δ, μ, q, hd, rs, h2, t.2, k⟩
    · split at t
      · rename_i l e0
        obtain ⟨a, vs, rfl, h1, h2⟩ := list_sq hd r e0
        exact .inr ⟨a, vs, rfl, h1, by rw [← h2.length]; exact t.1, F, l, δ, μ, q, hd, rs, h2, t.2, k⟩
      · exact t.elim
theorem dg_item {o i : Expr} {to ti : DTE} (ho : DE O X o to) (hi : DE O X i ti)
    (ha : ∀ v, assign (.Subscript o i pos) X.env v = (do
      let ov ← holding [v] (eval o X.env)
      let iv ← holding [v, ov] (eval i X.env)
      standAt pos
      holding [v, ov, iv] (setItem ov iv v)
      release [v, ov, iv] []) := by intro _; rfl) : DGw O X (.Subscript o i pos) [] (dgItem to ti) :=
  pg_weak (pg_sub ho hi set_list ha) fun v σ H Q ⟨F, d, δ, μ, q, hd, rs, r, t, k⟩ =>
    ⟨F, δ, μ, _, hd, rs, t, fun F1 H1 μ1 o vo e1 hd1 r1 t1 => ⟨F1, δ, μ1, _, hd1, rs.ext e1, t1, fun F2 H2 μ2 i vi e2 hd2 r2 t2 => by
      have r1 := r1.ext e2
      match o, i, t2, r1, r2 with
      | .adr p, .int kk, t2, r1, r2 =>
      obtain rfl : vo = .ref p := r1
      obtain rfl : vi = .int kk := r2
      obtain ⟨l, j, hm, hj, t2⟩ := t2
      obtain ⟨_, vs, h1, h2⟩ := hd2.own p _ hm
      refine ⟨p, vs, kk, j, rfl, rfl, h1, by rw [← h2.length]; exact hj, ?_⟩
      have ex := ext_set (o := HO.lst (vs.set j v)) hd2 hm
      exact k F2 _ _ δ σ ((e1.trans e2).trans ex) (hd2.set (m' := .lst (l.set j d)) hm ⟨_, upd_same, (h2.ext ex).set j (((r.ext e1).ext e2).ext ex)⟩) (((rs.ext e1).ext e2).ext ex) (Agr.refl _ _) t2⟩⟩
end

/-! ### statements -/
section
variable {O : Org} {X : Cx} {st : Stmt} {rest : List Stmt} {t u : DTS} {e : Expr} {te : DTE} {pos : Pos}
def dNext : DTS := fun E δ μ => E.nx δ μ
def dSeq (t u : DTS) : DTS := fun E δ μ => t { E with nx := u E } δ μ
theorem dss_nil : DSs O X [] dNext := pss_weak pss_nil fun Z σ H ⟨F, δ, μ, E, hd, rs, t, L⟩ => L.nx F H μ δ σ (Ext.refl F H) hd rs t
theorem lseq {K : PySem.W.Frag} : ∀ Z σ H, LS K O (dSeq t u) Z σ H → tSeq (LS K O t) (LS K O u) Z σ H := fun Z σ H ⟨F, δ, μ, E, hd, rs, t, L⟩ =>
  ⟨F, δ, μ, _, hd, rs, t, ⟨fun F' H' μ' δ' σ' e1 hd1 rs1 t1 => ⟨F', δ', μ', E, hd1, rs1, t1, L.ext e1⟩, L.rt, L.bk, L.ct⟩⟩
theorem dss_cons (h1 : DSt O X st t) (h2 : DSs O X rest u) : DSs O X (st :: rest) (dSeq t u) := pss_weak (pss_cons h1 h2) lseq
theorem dss_one (h1 : DSt O X st t) : DSs O X [st] t := pss_one h1
theorem ds_pass : DSt O X (.Pass pos) dNext := ps_weak ps_pass fun Z σ H ⟨F, δ, μ, E, hd, rs, t, L⟩ => L.nx F H μ δ σ (Ext.refl F H) hd rs t
def dBreak : DTS := fun E δ μ => E.bk δ μ
def dCont : DTS := fun E δ μ => E.ct δ μ
theorem ds_break : DSt O X (.Break pos) dBreak := ps_weak ps_break fun Z σ H ⟨F, δ, μ, E, hd, rs, t, L⟩ => L.bk F H μ δ σ (Ext.refl F H) hd rs t
theorem ds_continue : DSt O X (.Continue pos) dCont := ps_weak ps_continue fun Z σ H ⟨F, δ, μ, E, hd, rs, t, L⟩ => L.ct F H μ δ σ (Ext.refl F H) hd rs t
def dDrop (te : DTE) : DTS := fun E δ μ => te δ μ fun _ μ1 => E.nx δ μ1
theorem ds_expr (he : DE O X e te) (hs : swapsWith e none pos.line X.env = pure false := by rfl) : DSt O X (.Expr e pos) (dDrop te) := ps_weak (ps_expr he hs) fun Z σ H ⟨F, δ, μ, E, hd, rs, t, L⟩ =>
  ⟨F, δ, μ, _, hd, rs, t, fun F1 H1 μ1 d v e1 hd1 r1 t1 => L.nx F1 H1 μ1 δ σ e1 hd1 (rs.ext e1) t1⟩
def dRet (te : DTE) : DTS := fun E δ μ => te δ μ E.rt
theorem ds_ret (he : DE O X e te) : DSt O X (.Return (some e) pos) (dRet te) := ps_weak (ps_ret he) fun Z σ H ⟨F, δ, μ, E, hd, rs, t, L⟩ =>
  ⟨F, δ, μ, _, hd, rs, t, fun F1 H1 μ1 d v e1 hd1 r1 t1 => L.rt F1 H1 μ1 d v e1 hd1 r1 t1⟩
def dRetN : DTS := fun E _ μ => E.rt .non μ
theorem ds_retN : DSt O X (.Return none pos) dRetN := ps_weak ps_retN fun Z σ H ⟨F, δ, μ, E, hd, rs, t, L⟩ => L.rt F H μ .non .non (Ext.refl F H) hd rfl t
def dIfS (c : DTT) (t u : DTS) : DTS := fun E δ μ => c δ μ fun b μ1 => if b = true then t E δ μ1 else u E δ μ1
theorem ds_if {c : Expr} {a b : List Stmt} {tc : DTT} (hc : DT O X c tc) (ha : DSs O X a t) (hb : DSs O X b u) : DSt O X (.If c a b pos) (dIfS tc t u) := ps_weak (ps_if hc ha hb) fun Z σ H ⟨F, δ, μ, E, hd, rs, t, L⟩ =>
  ⟨F, δ, μ, _, hd, rs, t, fun F1 H1 μ1 b e1 hd1 t1 => by
    cases b with
    | true =>
      rw [if_pos rfl] at t1 ⊢
      exact ⟨F1, δ, μ1, E, hd1, rs.ext e1, t1, L.ext e1⟩
    | false =>
      rw [if_neg Bool.false_ne_true] at t1 ⊢
      exact ⟨F1, δ, μ1, E, hd1, rs.ext e1, t1, L.ext e1⟩⟩
def dAsg (te : DTE) (g : DTG) : DTS := fun E δ μ => te δ μ fun d μ1 => g d δ μ1 E.nx
theorem ds_asg {tg e : Expr} {te : DTE} {g : DTG} {ws : List Nat} (he : DE O X e te) (hg : DGw O X tg ws g) (hs : swapsWithSole [tg] e pos.line X.env = pure false := by rfl) (hw : swappedStores [tg] e X.env = pure none := by rfl)
    (h1 : (assignEach [tg] X.env).map (·.2) = [assign tg X.env] := by rfl) : DSt O X (.Assign [tg] e pos) (dAsg te g) := ps_weak (ps_asg he hg hs hw h1) fun Z σ H ⟨F, δ, μ, E, hd, rs, t, L⟩ =>
  ⟨F, δ, μ, _, hd, rs, t, fun F1 H1 μ1 d v e1 hd1 r1 t1 => ⟨F1, d, δ, μ1, _, hd1, rs.ext e1, r1, t1, fun F2 H2 μ2 δ2 σ2 e2 hd2 rs2 _ t2 => L.nx F2 H2 μ2 δ2 σ2 (e1.trans e2) hd2 rs2 t2⟩⟩
/-- a, b = x, y -/
def dPar (i j : Nat) (ta : DTA) : DTS := fun E δ μ => ta δ μ fun ds μ1 => match ds with | [d, e] => E.nx ((δ.set i (some d)).set j (some e)) μ1 | _ => False
theorem repL2 {K : PySem.W.Frag} {F : Zo} {H : Hp} {d e : D} {vs : List V} (r : RepL K F H [d, e] vs) : ∃ v w, vs = [v, w] ∧ Rep K F H d v ∧ Rep K F H e w := by
  obtain ⟨v, r1, rfl, h1, w, r2, rfl, h2, h3⟩ := r
  have h3 : r2 = [] := h3
  subst h3
  exact ⟨v, w, rfl, h1, h2⟩
theorem ds_par {i j : Nat} {x y : Str} {a b : Expr} {ta : DTA} {px py pt : Pos} {kt k2 pt2} (hc : X.calm = true) (hN : X.N.Nodup) (hi : X.N[i]? = some x) (hj : X.N[j]? = some y) (hij : i ≠ j)
    (hx : X.env.scope.names.lookup x = some .local) (hy : X.env.scope.names.lookup y = some .local) (ha : DA O X [a, b] ta)
    (hw : swappedStores [.Tuple [.Name x px, .Name y py] kt pt] (.Tuple [a, b] k2 pt2) X.env = pure (some [x, y]) := by rfl)
    (hs : swapsWithSole [.Tuple [.Name x px, .Name y py] kt pt] (.Tuple [a, b] k2 pt2) pos.line X.env = pure false := by rfl) :
    DSt O X (.Assign [.Tuple [.Name x px, .Name y py] kt pt] (.Tuple [a, b] k2 pt2) pos) (dPar i j ta) := ps_weak (ps_par hc hN hi hj hij hx hy ha hw hs) fun Z σ H ⟨F, δ, μ, E, hd, rs, t, L⟩ =>
  ⟨F, δ, μ, _, hd, rs, t, fun F1 H1 μ1 ds vs e1 hd1 r1 t1 => by
    match ds, t1 with
    | [d, e], t1 =>
      obtain ⟨v, w, rfl, h1, h2⟩ := repL2 r1
      exact ⟨v, w, rfl, L.nx F1 H1 μ1 _ _ e1 hd1 (((rs.ext e1).set h1).set h2) t1⟩⟩
def dPar3 (i j l : Nat) (ta : DTA) : DTS := fun E δ μ => ta δ μ fun ds μ1 => match ds with | [d, e, f] => E.nx (((δ.set i (some d)).set j (some e)).set l (some f)) μ1 | _ => False
theorem ds_par3 {i j l : Nat} {x y z : Str} {a b c : Expr} {ta : DTA} {px py pz pt : Pos} {kt k2 pt2} (hc : X.calm = true) (hN : X.N.Nodup) (hi : X.N[i]? = some x) (hj : X.N[j]? = some y) (hl : X.N[l]? = some z) (hij : i ≠ j) (hil : i ≠ l) (hjl : j ≠ l)
    (hx : X.env.scope.names.lookup x = some .local) (hy : X.env.scope.names.lookup y = some .local) (hz : X.env.scope.names.lookup z = some .local) (ha : DA O X [a, b, c] ta)
    (hw : swappedStores [.Tuple [.Name x px, .Name y py, .Name z pz] kt pt] (.Tuple [a, b, c] k2 pt2) X.env = pure (some [x, y, z]) := by rfl)
    (hs : swapsWithSole [.Tuple [.Name x px, .Name y py, .Name z pz] kt pt] (.Tuple [a, b, c] k2 pt2) pos.line X.env = pure false := by rfl) :
    DSt O X (.Assign [.Tuple [.Name x px, .Name y py, .Name z pz] kt pt] (.Tuple [a, b, c] k2 pt2) pos) (dPar3 i j l ta) := ps_weak (ps_par3 hc hN hi hj hl hij hil hjl hx hy hz ha hw hs) fun Z σ H ⟨F, δ, μ, E, hd, rs, t, L⟩ =>
  ⟨F, δ, μ, _, hd, rs, t, fun F1 H1 μ1 ds vs e1 hd1 r1 t1 => by
    match ds, t1 with
    | [d, e, f], t1 =>
      obtain ⟨v, r', rfl, h1, r2⟩ := r1
      obtain ⟨w, w2, rfl, h2, h3⟩ := repL2 r2
      exact ⟨v, w, w2, rfl, L.nx F1 H1 μ1 _ _ e1 hd1 ((((rs.ext e1).set h1).set h2).set h3) t1⟩⟩
/-- x += e -/
def dAug (i : Nat) (te : DTE) (f : Int → Int → Int) : DTS := fun E δ μ => match δ[i]? with
  | some (some (.int x)) => te δ μ fun d μ1 => match d with | .int y => E.nx (δ.set i (some (.int (f x y)))) μ1 | _ => False
  | _ => False
theorem ds_aug {i : Nat} {x : Str} {op : Operator} {f : Int → Int → Int} {pos' : Pos} (hN : X.N.Nodup) (hi : X.N[i]? = some x) (hx : Loc X.env.scope x) (he : DE O X e te) (ho : PIp X op (ipI f)) (hf : X.fn x = true ∨ X.env.scope.names.lookup x = some .local := by first | exact .inl rfl | exact .inr rfl | assumption) :
    DSt O X (.AugAssign (.Name x pos') op e pos) (dAug i te f) := ps_weak (ps_aug hN hi hx he ho hf) fun Z σ H ⟨F, δ, μ, E, hd, rs, t, L⟩ => by
  unfold dAug at t
  split at t
  · rename_i x0 hx0
    obtain ⟨v, h1, h2⟩ := rs.at_ i _ hx0
    obtain rfl : v = .int x0 := h2
    refine ⟨_, h1, F, δ, μ, _, hd, rs, t, fun F1 H1 μ1 d v e1 hd1 r1 t1 => ?_⟩
    cases d <;> first | exact False.elim t1 | skip
    rename_i y
    obtain rfl : v = .int y := r1
    exact ⟨x0, y, rfl, rfl, L.nx F1 H1 μ1 _ _ e1 hd1 ((rs.ext e1).set (d := .int (f x0 y)) rfl) t1⟩
  · exact t.elim
end
end DL

set_option Elab.async false
set_option linter.all false
set_option maxRecDepth 100000
namespace DL
open PySem L2 PySem.Spec PyProof.Rows

/-! ### what is walked: a list of data, told ahead; keep: what must stay so through the walk -/
structure ItOk (K : PySem.W.Frag) (O : Org) (F1 : Zo) (H1 : Hp) (items : List D) (keep : Mu → Prop) (J : It) : Prop where
  go : ∀ i F2 H2 μ2, Ext F1 H1 F2 H2 → Hd K O F2 H2 μ2 → keep μ2 → i < items.length → J.go i H2
  yld : ∀ i F2 H2 μ2 x H3, Ext F1 H1 F2 H2 → Hd K O F2 H2 μ2 → keep μ2 → i < items.length → J.yld i H2 x H3 → ∃ F3 d, Ext F2 H2 F3 H3 ∧ Hd K O F3 H3 μ2 ∧ items[i]? = some d ∧ Rep K F3 H3 d x
  stop : ∀ i F2 H2 μ2, Ext F1 H1 F2 H2 → Hd K O F2 H2 μ2 → keep μ2 → items.length ≤ i → J.stop i H2
abbrev DTI := DS → Mu → (List D → (Mu → Prop) → Mu → Prop) → Prop
def LI (K : PySem.W.Frag) (O : Org) (t : DTI) : TI := fun σ H R => ∃ F δ μ q, Hd K O F H μ ∧ RepS K F H δ σ ∧ t δ μ q ∧ ∀ F' H' μ' items keep J, Ext F H F' H' → Hd K O F' H' μ' → ItOk K O F' H' items keep J → q items keep μ' → R J H'
abbrev DI (O : Org) (X : Cx) (tg iter : Expr) (t : DTI) : Prop := PI X tg iter (LI X.K O t)
theorem pi_weak {X : Cx} {tg e : Expr} {t t' : TI} (h : PI X tg e t) (w : ∀ σ H R, t' σ H R → t σ H R) : PI X tg e t' := ⟨fun pins s σ H R I q => h.run pins s σ H R I (w σ H R q)⟩
theorem pi_or {X : Cx} {tg e : Expr} {t1 t2 : TI} (h1 : PI X tg e t1) (h2 : PI X tg e t2) : PI X tg e (fun σ H R => t1 σ H R ∨ t2 σ H R) := ⟨fun pins s σ H R I q => q.elim (h1.run pins s σ H R I) (h2.run pins s σ H R I)⟩

def intsD (lo : Int) : Nat → List D
  | n => (List.range n).map fun i => D.int (lo + (i : Nat))
section
variable {O : Org} {K : PySem.W.Frag} {F : Zo} {H : Hp} {μ : Mu}
theorem itok_range (lo : Int) (n : Nat) : ItOk K O F H (intsD lo n) (fun _ => True) (Itr lo n) := by
  have hl : (intsD lo n).length = n := by simp [intsD]
  refine ⟨fun i F2 H2 μ2 _ _ _ h => by rw [hl] at h; exact h, fun i F2 H2 μ2 x H3 e hd _ h ⟨h1, h2⟩ => ?_, fun i F2 H2 μ2 _ _ _ h => by rw [hl] at h; exact h⟩
  subst h1 h2
  rw [hl] at h
  exact ⟨F2, .int (lo + i), Ext.refl _ _, hd, by simp [intsD, h], rfl⟩
theorem sq_ext {F2 : Zo} {H2 : Hp} {a : Addr} {vs : List V} (e : Ext F H F2 H2) (h : FzR K F H a vs) : SqL K H2 a vs := (h.ext e).sq
theorem list_uniq {a : Addr} {xs vs : List V} (h : SqL K H a xs) (k : SqL K H a vs) (one : ∀ ys, SqL K H a ys → ys = vs) : xs = vs := one xs h
/-- a list that is read off at each turn -/
theorem itok_list {items : List D} {keep : Mu → Prop} {a : Addr} {vs : List V} (hr : RepL K F H items vs)
    (st : ∀ F2 H2 μ2, Ext F H F2 H2 → Hd K O F2 H2 μ2 → keep μ2 → SqL K H2 a vs ∨ ∃ ws, SqL K H2 a ws ∧ RepL K F2 H2 items ws) : ItOk K O F H items keep (Itl K a) := by
  have q : ∀ F2 H2 μ2, Ext F H F2 H2 → Hd K O F2 H2 μ2 → keep μ2 → ∃ ws, SqL K H2 a ws ∧ RepL K F2 H2 items ws := fun F2 H2 μ2 e hd k => by
    rcases st F2 H2 μ2 e hd k with h | h
    · exact ⟨vs, h, hr.ext e⟩
    · exact h
  refine ⟨fun i F2 H2 μ2 e hd k h => ?_, fun i F2 H2 μ2 x H3 e hd k h ⟨h1, h2⟩ => ?_, fun i F2 H2 μ2 e hd k h => ?_⟩
  · obtain ⟨ws, h1, h2⟩ := q F2 H2 μ2 e hd k
    have hl : i < ws.length := by rw [← h2.length]; exact h
    exact ⟨ws, ws[i], h1, by simp [hl]⟩
  · subst h1
    obtain ⟨ws, h1, hw⟩ := q F2 _ μ2 e hd k
    obtain ⟨d, e1, e2⟩ := hw.get' (h2 ws h1)
    exact ⟨F2, d, Ext.refl _ _, hd, e1, e2⟩
  · obtain ⟨ws, h1, h2⟩ := q F2 H2 μ2 e hd k
    exact ⟨ws, h1, by rw [← h2.length]; exact h⟩
theorem itok_tup {items : List D} {a : Addr} {vs : List V} (hr : RepL K F H items vs) (hz : FzT K F H a vs) : ItOk K O F H items (fun _ => True) (Itt K a) := by
  refine ⟨fun i F2 H2 μ2 e hd k h => ?_, fun i F2 H2 μ2 x H3 e hd k h ⟨h1, h2⟩ => ?_, fun i F2 H2 μ2 e hd k h => ?_⟩
  · have hl : i < vs.length := by rw [← hr.length]; exact h
    exact ⟨vs, vs[i], (hz.ext e).sq, by simp [hl]⟩
  · subst h1
    obtain ⟨d, e1, e2⟩ := (hr.ext e).get' (h2 vs (hz.ext e).sq)
    exact ⟨F2, d, Ext.refl _ _, hd, e1, e2⟩
  · exact ⟨vs, (hz.ext e).sq, by rw [← hr.length]; exact h⟩
end
/-- a list, a tuple -/
def diSeq (te : DTE) : DTI := fun δ μ q => te δ μ fun d μ1 => match d with
  | .tup l => q l (fun _ => True) μ1
  | .lst l => q l (fun _ => True) μ1
  | .rol l => q l (fun _ => True) μ1
  | .adr p => ∃ l, μ1 p = some (.lst l) ∧ q l (fun μ => μ p = some (.lst l)) μ1
  | _ => False
def diRng1 (ta : DTA) : DTI := fun δ μ q => ta δ μ fun ds μ1 => match ds with | [.int j] => (-(2 ^ 62) ≤ j ∧ j < 2 ^ 62) ∧ q (intsD 0 j.toNat) (fun _ => True) μ1 | _ => False
def diRng2 (ta : DTA) : DTI := fun δ μ q => ta δ μ fun ds μ1 => match ds with | [.int i, .int j] => (-(2 ^ 62) ≤ i ∧ i < 2 ^ 62 ∧ -(2 ^ 62) ≤ j ∧ j < 2 ^ 62) ∧ q (intsD i (j - i).toNat) (fun _ => True) μ1 | _ => False
/-- a list or a tuple, told behind its evaluation -/
def iSeq (K : PySem.W.Frag) (tl : TE) : TI := fun σ H R => tl σ H fun x H1 => ∃ a, x = .ref a ∧ (((∃ xs, SqL K H1 a xs) ∧ R (Itl K a) H1) ∨ ((∃ xs, SqT K H1 a xs) ∧ R (Itt K a) H1))
theorem pi_seq {X : Cx} {tg l : Expr} {tl : TE} (hl : PE X l tl) : PI X tg l (iSeq X.K tl) := by
  constructor
  intro pins s σ H R I h
  refine thn (hl.run pins s σ H _ I h) ?_
  rintro v s1 ⟨x, H1, I1, r1, a, e, hq⟩
  subst e
  cases r1
  have new := I1.hok.fresh (Nat.le_refl s1.heap.objs.size)
  have fp : ∀ b ∈ [s1.heap.objs.size], FpOk X pins H1 b := by
    intro b hb
    rw [List.mem_singleton.mp hb]
    exact I1.fpOk (Nat.le_refl _) new
  rcases hq with ⟨⟨xs, hx⟩, q⟩ | ⟨⟨xs, hx⟩, q⟩
  · obtain ⟨its, _, pl, _⟩ := I1.list hx
    refine wpAny_pyIter_list pl.isList ?_
    exact ⟨s1.heap.objs.size, [s1.heap.objs.size], _, Itl X.K a, H1, rfl, I1.kept (t' := s1.toks) (fun _ _ z => Heap.get?_push_of_some _ z), turn_list a _, ⟨_, Heap.get?_push_size _ rfl, rfl, rfl⟩, fp, q⟩
  · obtain ⟨its, _, pl, _⟩ := I1.tuple hx
    refine wpAny_pyIter_tuple (items := its.toArray) pl ?_
    exact ⟨s1.heap.objs.size, [s1.heap.objs.size], _, Itt X.K a, H1, rfl, I1.kept (t' := s1.toks) (fun _ _ z => Heap.get?_push_of_some _ z), turn_tuple a _, ⟨_, Heap.get?_push_size _ rfl, rfl, rfl⟩, fp, q⟩
section
variable {O : Org} {X : Cx} {tg e a b : Expr} {te : DTE} {ta : DTA} {pos p : Pos}
theorem di_seq (he : DE O X e te) : DI O X tg e (diSeq te) := pi_weak (pi_seq he) fun σ H R ⟨F, δ, μ, q, hd, rs, t, k⟩ =>
  ⟨F, δ, μ, _, hd, rs, t, fun F1 H1 μ1 d v e1 hd1 r1 t1 => by
    cases d <;> first | exact False.elim t1 | skip
    · rename_i p
      obtain rfl : v = .ref p := r1
      obtain ⟨l, hm, t1⟩ := t1
      obtain ⟨_, vs, h1, h2⟩ := hd1.own p _ hm
      refine ⟨p, rfl, .inl ⟨⟨vs, SqL.of h1⟩, k F1 H1 μ1 l _ _ e1 hd1 (itok_list h2 fun F2 H2 μ2 e2 hd2 k2 => ?_) t1⟩⟩
      obtain ⟨_, ws, h3, h4⟩ := hd2.own p _ k2
      exact .inr ⟨ws, SqL.of h3, h4⟩
    · obtain ⟨a, vs, rfl, h1, h2⟩ := r1
      exact ⟨a, rfl, .inr ⟨⟨vs, h1.sq⟩, k F1 H1 μ1 _ _ _ e1 hd1 (itok_tup h2 h1) t1⟩⟩
    · obtain ⟨a, vs, rfl, h1, h2⟩ := r1
      exact ⟨a, rfl, .inl ⟨⟨vs, SqL.of h1.2⟩, k F1 H1 μ1 _ _ _ e1 hd1 (itok_list h2 fun F2 H2 μ2 e2 hd2 k2 => .inl (SqL.of ((e2.hf h1.1).trans h1.2))) t1⟩⟩
    · obtain ⟨a, vs, rfl, h1, h2⟩ := r1
      exact ⟨a, rfl, .inl ⟨⟨vs, h1.sq⟩, k F1 H1 μ1 _ _ _ e1 hd1 (itok_list h2 fun F2 H2 μ2 e2 hd2 k2 => .inl (h1.ext e2).sq) t1⟩⟩⟩
theorem di_range1 (hg : Gl X "range") (hm : X.mg "range" = none) (ha : DA O X [a] ta) (hs : starEach [a] X.env = [(false, eval a X.env)] := by rfl) : DI O X tg (.Call (.Name "range" p) [a] [] pos) (diRng1 ta) :=
  pi_weak (pi_range1 hg hm ha hs) fun σ H R ⟨F, δ, μ, q, hd, rs, t, k⟩ => ⟨F, δ, μ, _, hd, rs, t, fun F1 H1 μ1 ds vs e1 hd1 r1 t1 => by
    match ds, t1 with
    | [.int j], t1 =>
      obtain ⟨v, r', rfl, h1, h2⟩ := r1
      obtain rfl : v = .int j := h1
      obtain rfl : r' = [] := h2
      exact ⟨j, rfl, t1.1.1, t1.1.2, k F1 H1 μ1 _ _ _ e1 hd1 (itok_range 0 j.toNat) t1.2⟩⟩
theorem di_range2 (hg : Gl X "range") (hm : X.mg "range" = none) (ha : DA O X [a, b] ta) (hs : starEach [a, b] X.env = [(false, eval a X.env), (false, eval b X.env)] := by rfl) (hs2 : starEach [b] X.env = [(false, eval b X.env)] := by rfl) :
    DI O X tg (.Call (.Name "range" p) [a, b] [] pos) (diRng2 ta) :=
  pi_weak (pi_range2 hg hm ha hs hs2) fun σ H R ⟨F, δ, μ, q, hd, rs, t, k⟩ => ⟨F, δ, μ, _, hd, rs, t, fun F1 H1 μ1 ds vs e1 hd1 r1 t1 => by
    match ds, t1 with
    | [.int i, .int j], t1 =>
      obtain ⟨v, w, rfl, h1, h2⟩ := repL2 r1
      obtain rfl : v = .int i := h1
      obtain rfl : w = .int j := h2
      exact ⟨i, j, rfl, t1.1, k F1 H1 μ1 _ _ _ e1 hd1 (itok_range i (j - i).toNat) t1.2⟩⟩
end

/-! ### for, while -/
def dFor (ti : DTI) (g : DTG) (tb : DTS) : DTS := fun E δ μ => ti δ μ fun items keep μ1 => ∃ P : Nat → DS → Mu → Prop, P 0 δ μ1 ∧ (∀ i δ μ, i ≤ items.length → P i δ μ → keep μ) ∧
  (∀ i d δ μ, items[i]? = some d → P i δ μ → g d δ μ fun δ2 μ2 => tb { E with nx := P (i + 1), ct := P (i + 1), bk := E.nx } δ2 μ2) ∧ ∀ δ μ, P items.length δ μ → E.nx δ μ
def dWhile (c : DTT) (tb : DTS) : DTS := fun E δ μ => ∃ P : Nat → DS → Mu → Prop, (∃ m, P m δ μ) ∧ ∀ m δ μ, P m δ μ →
  c δ μ fun b μ1 => if b = true then tb { E with nx := fun δ' μ' => ∃ m', m' < m ∧ P m' δ' μ', ct := fun δ' μ' => ∃ m', m' < m ∧ P m' δ' μ', bk := E.nx } δ μ1 else E.nx δ μ1
section
variable {O : Org} {X : Cx} {tg iter c : Expr} {ti : DTI} {g : DTG} {tb : DTS} {ws : List Nat} {body : List Stmt} {pos : Pos} {tc : DTT}
theorem ds_for (hp : PassesOwn (model X.prog X.w) X.A X.env X.xe) (hc : X.calm = true) (hi : DI O X tg iter ti) (hg : DGw O X tg ws g) (hb : DSs O X body tb)
    (hs : ∀ x, foldedSetIterable iter X.env x = pure x := by intro _; rfl) : DSt O X (.For tg iter body [] pos) (dFor ti g tb) := ps_weak (ps_for hp hc hi hg hb hs) fun Z σ H ⟨F, δ, μ, E, hd, rs, t, L⟩ =>
  ⟨F, δ, μ, _, hd, rs, t, fun F1 H1 μ1 items keep J e1 hd1 ok ⟨P, p0, pk, step, fin⟩ => by
    refine ⟨fun i m σ' H' => m = items.length - i ∧ i ≤ items.length ∧ ∃ F2 δ2 μ2, Ext F1 H1 F2 H' ∧ Hd X.K O F2 H' μ2 ∧ RepS X.K F2 H' δ2 σ' ∧ P i δ2 μ2, ⟨_, rfl, Nat.zero_le _, F1, δ, μ1, Ext.refl _ _, hd1, rs.ext e1, p0⟩, ?_⟩
    rintro i m σ2 H2 ⟨rfl, hi, F2, δ2, μ2, e2, hd2, rs2, p2⟩
    have kk := pk i δ2 μ2 hi p2
    by_cases hlt : i < items.length
    · refine .inr ⟨ok.go i F2 H2 μ2 e2 hd2 kk hlt, fun σ' H' => ∃ F2 δ2 μ2, Ext F1 H1 F2 H' ∧ Hd X.K O F2 H' μ2 ∧ RepS X.K F2 H' δ2 σ' ∧ P (i + 1) δ2 μ2, fun σ' H' q => ⟨_, by omega, rfl, hlt, q⟩, fun x H3 hy => ?_⟩
      obtain ⟨F3, d, e3, hd3, hd', r3⟩ := ok.yld i F2 H2 μ2 x H3 e2 hd2 kk hlt hy
      refine ⟨F3, d, δ2, μ2, _, hd3, rs2.ext e3, r3, step i d δ2 μ2 hd' p2, fun F4 H4 μ4 δ4 σ4 e4 hd4 rs4 _ t4 => ?_⟩
      have e14 := (e2.trans e3).trans e4
      exact ⟨F4, δ4, μ4, _, hd4, rs4, t4, ⟨fun F5 H5 μ5 δ5 σ5 e5 hd5 rs5 q => ⟨F5, δ5, μ5, e14.trans e5, hd5, rs5, q⟩, fun F5 H5 μ5 d5 v5 e5 => L.rt F5 H5 μ5 d5 v5 ((e1.trans e14).trans e5),
        fun F5 H5 μ5 δ5 σ5 e5 => L.nx F5 H5 μ5 δ5 σ5 ((e1.trans e14).trans e5), fun F5 H5 μ5 δ5 σ5 e5 hd5 rs5 q => ⟨F5, δ5, μ5, e14.trans e5, hd5, rs5, q⟩⟩⟩
    · have e : i = items.length := by omega
      subst e
      exact .inl ⟨ok.stop _ F2 H2 μ2 e2 hd2 kk (Nat.le_refl _), L.nx F2 H2 μ2 δ2 σ2 (e1.trans e2) hd2 rs2 (fin δ2 μ2 p2)⟩⟩
theorem ds_while (hp : PassesOwn (model X.prog X.w) X.A X.env X.xe) (hc : DT O X c tc) (hb : DSs O X body tb) : DSt O X (.While c body [] pos) (dWhile tc tb) := ps_weak (ps_while hp hc hb) fun Z σ H ⟨F, δ, μ, E, hd, rs, ⟨P, ⟨m0, p0⟩, step⟩, L⟩ => by
  refine ⟨fun m σ' H' => ∃ F2 δ2 μ2, Ext F H F2 H' ∧ Hd X.K O F2 H' μ2 ∧ RepS X.K F2 H' δ2 σ' ∧ P m δ2 μ2, ⟨m0, F, δ, μ, Ext.refl _ _, hd, rs, p0⟩, ?_⟩
  rintro m σ2 H2 ⟨F2, δ2, μ2, e2, hd2, rs2, p2⟩
  refine ⟨F2, δ2, μ2, _, hd2, rs2, step m δ2 μ2 p2, fun F3 H3 μ3 b e3 hd3 t3 => ?_⟩
  have e13 := e2.trans e3
  cases b with
  | true =>
    rw [if_pos rfl] at t3
    dsimp only
    rw [if_pos rfl]
    refine ⟨fun σ' H' => ∃ F2 δ2 μ2, Ext F H F2 H' ∧ Hd X.K O F2 H' μ2 ∧ RepS X.K F2 H' δ2 σ' ∧ ∃ m', m' < m ∧ P m' δ2 μ2, fun σ' H' ⟨F5, δ5, μ5, e5, hd5, rs5, m', hm, q⟩ => ⟨m', hm, F5, δ5, μ5, e5, hd5, rs5, q⟩, ?_⟩
    exact ⟨F3, δ2, μ3, _, hd3, rs2.ext e3, t3, ⟨fun F5 H5 μ5 δ5 σ5 e5 hd5 rs5 q => ⟨F5, δ5, μ5, e13.trans e5, hd5, rs5, q⟩, fun F5 H5 μ5 d5 v5 e5 => L.rt F5 H5 μ5 d5 v5 (e13.trans e5),
      fun F5 H5 μ5 δ5 σ5 e5 => L.nx F5 H5 μ5 δ5 σ5 (e13.trans e5), fun F5 H5 μ5 δ5 σ5 e5 hd5 rs5 q => ⟨F5, δ5, μ5, e13.trans e5, hd5, rs5, q⟩⟩⟩
  | false =>
    rw [if_neg Bool.false_ne_true] at t3
    dsimp only
    rw [if_neg Bool.false_ne_true]
    exact L.nx F3 H3 μ3 δ2 σ2 e13 hd3 (rs2.ext e3) t3
end

/-! ### comprehensions -/
abbrev DTs (O : Org) (X : Cx) (ifs : List Expr) (t : DTT) : Prop := PTs X ifs (LT X.K O t)
def dYes : DTT := fun _ μ q => q true μ
def dLc (ti : DTI) (g : DTG) (tt : DTT) (te : DTE) (vs : List Nat) : DTE := fun δ μ q => ti δ μ fun items keep μ1 => ∃ P : Nat → List D → Mu → Prop, P 0 [] μ1 ∧ (∀ i l μ, i ≤ items.length → P i l μ → keep μ ∧ l.length < sizeLine) ∧
  (∀ i d l μ, items[i]? = some d → P i l μ → g d (wipeD δ vs) μ fun δ2 μ2 => tt δ2 μ2 fun b μ3 => if b = true then te δ2 μ3 fun y μ4 => P (i + 1) (l ++ [y]) μ4 else P (i + 1) l μ3) ∧ ∀ l μ, P items.length l μ → q (.lst l) μ
section
variable {O : Org} {X : Cx}
theorem dts_nil : DTs O X [] dYes := ⟨fun pins s σ H Q I ⟨F, δ, μ, q, hd, rs, t, k⟩ => pts_nil.run pins s σ H Q I (k F H μ true (Ext.refl F H) hd t)⟩
theorem dts_one {c : Expr} {t : DTT} (h : DT O X c t) : DTs O X [c] t := pts_one h
theorem llc {K : PySem.W.Frag} {ti : DTI} {g : DTG} {tt : DTT} {te : DTE} {ws vs : List Nat} (hw : ∀ i ∈ ws, i ∈ vs) : ∀ σ H Q, LE K O (dLc ti g tt te vs) σ H Q → tLc (LI K O ti) (LGw K O ws g) (LT K O tt) (LE K O te) vs σ H Q := fun σ H Q ⟨F, δ, μ, q, hd, rs, t, k⟩ =>
  ⟨F, δ, μ, _, hd, rs, t, fun F1 H1 μ1 items keep J e1 hd1 ok ⟨P, p0, pk, step, fin⟩ => by
    intro A hA
    -- the new list stays out of reach: what is said holds of the heap with it
    have nG : ¬ F1.G A := hd1.nf hA
    refine ⟨fun i m H' => m = items.length - i ∧ i ≤ items.length ∧ ∃ F2 l us μ2, Ext F1 H1 F2 H' ∧ Hd K O F2 H' μ2 ∧ ¬ F2.G A ∧ μ2 A = none ∧ H' A = some (.lst us) ∧ RepL K F2 H' l us ∧ P i l μ2, ⟨_, rfl, Nat.zero_le _, F1, [], [], μ1, ext_new hd1 hA, ⟨hd1.org.trans (ext_new hd1 hA), fun a f => ?_, fun a m e => ?_⟩, nG, hd1.free hA, upd_same, RepL.nil, p0⟩, ?_⟩
    · have z : a ≠ A := fun z => nG (z ▸ f)
      rw [upd_ne z]; exact hd1.fr a f
    · have z : a ≠ A := fun z => by rw [z, hd1.free hA] at e; cases e
      exact ⟨(hd1.own a m e).1, (hd1.own a m e).2.ext (ext_new hd1 hA) (upd_ne z)⟩
    rintro i m H2 ⟨rfl, hi, F2, l, us, μ2, e2, hd2, nA, mA, hA2, rl, p2⟩
    obtain ⟨kk, hsz⟩ := pk i l μ2 hi p2
    by_cases hlt : i < items.length
    · refine .inr ⟨ok.go i F2 H2 μ2 e2 hd2 kk hlt, fun H' => ∃ F2 l us μ2, Ext F1 H1 F2 H' ∧ Hd K O F2 H' μ2 ∧ ¬ F2.G A ∧ μ2 A = none ∧ H' A = some (.lst us) ∧ RepL K F2 H' l us ∧ P (i + 1) l μ2, fun H' q => ⟨_, by omega, rfl, hlt, q⟩, fun x H3 hy => ?_⟩
      have ep : Ext F2 H2 (addG F2 A) H2 := ⟨fun _ f => f, fun _ f => .inl f, fun _ _ => rfl, fun _ _ f => f⟩
      have hdp : Hd K O (addG F2 A) H2 μ2 := by
        refine ⟨hd2.org.trans ep, fun a f => f.elim (hd2.fr a) fun z => by rw [z, hA2]; simp, fun a m e => ?_⟩
        have z : a ≠ A := fun z => by rw [z, mA] at e; cases e
        exact ⟨fun f => f.elim (hd2.own a m e).1 z, (hd2.own a m e).2.ext ep rfl⟩
      obtain ⟨F3, d, e3, hd3, hd', r3⟩ := ok.yld i (addG F2 A) H2 μ2 x H3 (e2.trans ep) hdp kk hlt hy
      have e03 := (e1.trans (e2.trans ep)).trans e3
      refine ⟨F3, d, wipeD δ vs, μ2, _, hd3, (rs.wipe vs).ext e03, r3, step i d l μ2 hd' p2, fun F4 H4 μ4 δ4 σ4 e4 hd4 rs4 a4 t4 => ⟨(wipe_agr (a4.mono hw)).trans (wipe_wipe σ vs), F4, δ4, μ4, _, hd4, rs4, t4, fun F5 H5 μ5 b e5 hd5 t5 => ?_⟩⟩
      have e25 : Ext (addG F2 A) H2 F5 H5 := (e3.trans e4).trans e5
      -- what a turn leaves, whether or not something was appended
      have close : ∀ F6 H6 μ6, Ext (addG F2 A) H2 F6 H6 → Hd K O F6 H6 μ6 → ∀ (l' : List D) (us' : List V), RepL K F6 H6 l' us' → P (i + 1) l' μ6 →
          ∃ F7 l7 us7 μ7, Ext F1 H1 F7 (upd H6 A (.lst us')) ∧ Hd K O F7 (upd H6 A (.lst us')) μ7 ∧ ¬ F7.G A ∧ μ7 A = none ∧ (upd H6 A (.lst us')) A = some (.lst us7) ∧ RepL K F7 (upd H6 A (.lst us')) l7 us7 ∧ P (i + 1) l7 μ7 := by
        intro F6 H6 μ6 e6 hd6 l' us' r' p'
        have nf : ¬ F6.F A := fun f => nA (F2.sub A (e6.o A (.inr rfl) f))
        have gA : F6.G A := e6.g A (.inr rfl)
        have mA6 : μ6 A = none := by
          cases e : μ6 A with
          | none => rfl
          | some m => exact absurd gA (hd6.own A m e).1
        have le : Le F6 H6 (remG F6 A nf) (upd H6 A (.lst us')) := ⟨fun _ f => f, fun {a} f => upd_ne fun z => nf (z ▸ f)⟩
        have ex1 : Ext F1 H1 (remG F6 A nf) (upd H6 A (.lst us')) := ⟨fun a f => e6.f a (e2.f a f), fun a f => ⟨e6.g a (.inl (e2.g a f)), fun z => nG (z ▸ f)⟩, fun a f => by
          have z : a ≠ A := fun z => nG (z ▸ f)
          rw [upd_ne z, e6.h a (.inl (e2.g a f)), e2.h a f], fun a f k => e2.o a f (e6.o a (.inl (e2.g a f)) k)⟩
        refine ⟨remG F6 A nf, l', us', μ6, ex1, ⟨hd1.org.trans ex1, fun a f => ?_, fun a m e => ?_⟩, fun f => f.2 rfl, mA6, upd_same, r'.mv le, p'⟩
        · rw [upd_ne f.2]; exact hd6.fr a f.1
        · have z : a ≠ A := fun z => by rw [z, mA6] at e; cases e
          exact ⟨fun f => (hd6.own a m e).1 f.1, (hd6.own a m e).2.mv le (upd_ne z)⟩
      cases b with
      | true =>
        rw [if_pos rfl] at t5
        dsimp only
        rw [if_pos rfl]
        refine ⟨F5, δ4, μ5, _, hd5, rs4.ext e5, t5, fun F6 H6 μ6 y v e6 hd6 r6 t6 => ?_⟩
        have e26 := e25.trans e6
        refine ⟨us, (e26.h A (.inr rfl)).trans hA2, by rw [← rl.length]; exact hsz, ?_⟩
        exact close F6 H6 μ6 e26 hd6 (l ++ [y]) (us ++ [v]) (((rl.ext ep).ext e26).append (.cons r6 RepL.nil)) t6
      | false =>
        rw [if_neg Bool.false_ne_true] at t5
        dsimp only
        rw [if_neg Bool.false_ne_true]
        have c := close F5 H5 μ5 e25 hd5 l us ((rl.ext ep).ext e25) t5
        have eu : upd H5 A (.lst us) = H5 := by
          funext b
          unfold upd
          split
          · rename_i e; rw [e, (e25.h A (.inr rfl)).trans hA2]
          · rfl
        rw [eu] at c
        exact c
    · have e : i = items.length := by omega
      subst e
      refine .inl ⟨ok.stop _ F2 H2 μ2 e2 hd2 kk (Nat.le_refl _), ?_⟩
      have ex : Ext F2 H2 (addF F2 A) H2 := ⟨fun _ f => .inl f, fun _ f => .inl f, fun _ _ => rfl, fun a f z => z.elim id fun z => absurd (z ▸ f) nA⟩
      refine k (addF F2 A) H2 μ2 (.lst l) (.ref A) ((e1.trans e2).trans ex) ⟨hd2.org.trans ex, fun a f => ?_, fun a m e => ?_⟩ ⟨A, us, rfl, ⟨.inr rfl, hA2⟩, rl.ext ex⟩ (fin l μ2 p2)
      · rcases f with f | f
        · exact hd2.fr a f
        · rw [f, hA2]; simp
      · have z : a ≠ A := fun z => by rw [z, mA] at e; cases e
        exact ⟨fun f => f.elim (hd2.own a m e).1 z, (hd2.own a m e).2.ext ex rfl⟩⟩
theorem de_lc {elt tg iter : Expr} {ifs : List Expr} {scope : Scope} {own : List (Str × Nat)} {pos : Pos} {ti : DTI} {g : DTG} {tt : DTT} {te : DTE} {ws : List Nat} (hc : X.calm = true) (hN : X.N.Nodup) (hi : DI O X tg iter ti) (ok : BlkOk X.N X.env.scope scope own) (hw : ∀ i ∈ ws, i ∈ own.map (·.2))
    (hg : ∀ (s : Shared) (H : Hp) (C : Addr) (cl : List (Str × Addr)) (fp : List Addr), DGw O (X.blk s H scope (compEnvC scope cl C X.env) fp) tg ws g) (ht : ∀ (s : Shared) (H : Hp) (C : Addr) (cl : List (Str × Addr)) (fp : List Addr), DTs O (X.blk s H scope (compEnvC scope cl C X.env) fp) ifs tt)
    (he : ∀ (s : Shared) (H : Hp) (C : Addr) (cl : List (Str × Addr)) (fp : List Addr), DE O (X.blk s H scope (compEnvC scope cl C X.env) fp) elt te) (hs : ∀ x, foldedSetIterable iter X.env x = pure x := by intro _; rfl) :
    DE O X (.ListComp elt [⟨tg, iter, ifs, 0⟩] scope pos) (dLc ti g tt te (own.map (·.2))) := pe_weak (pe_lc hc hN hi ok hg ht he hs) (llc hw)
theorem ds_setLc {i : Nat} {y : Str} {py : Pos} {elt tg iter : Expr} {ifs : List Expr} {scope : Scope} {own : List (Str × Nat)} {pos spos : Pos} {ti : DTI} {g : DTG} {tt : DTT} {te : DTE} {ws : List Nat} (hc : X.calm = true) (hN : X.N.Nodup) (hy : X.N[i]? = some y) (hyl : X.env.scope.names.lookup y = some .local)
    (hsw : swapsWith (.ListComp elt [⟨tg, iter, ifs, 0⟩] scope pos) (some (.Name y py)) spos.line X.env = pure true) (hi : DI O X tg iter ti) (ok : BlkOk X.N X.env.scope scope own) (hw : ∀ i ∈ ws, i ∈ own.map (·.2))
    (hg : ∀ (s : Shared) (H : Hp) (C : Addr) (cl : List (Str × Addr)) (fp : List Addr), DGw O (X.blk s H scope (compEnvC scope cl C X.env) fp) tg ws g) (ht : ∀ (s : Shared) (H : Hp) (C : Addr) (cl : List (Str × Addr)) (fp : List Addr), DTs O (X.blk s H scope (compEnvC scope cl C X.env) fp) ifs tt)
    (he : ∀ (s : Shared) (H : Hp) (C : Addr) (cl : List (Str × Addr)) (fp : List Addr), DE O (X.blk s H scope (compEnvC scope cl C X.env) fp) elt te) (hs : ∀ x, foldedSetIterable iter X.env x = pure x := by intro _; rfl) :
    DSt O X (.Assign [.Name y py] (.ListComp elt [⟨tg, iter, ifs, 0⟩] scope pos) spos) (dAsg (dLc ti g tt te (own.map (·.2))) (dgName i)) := ps_weak (ps_setLc hc hN hy hyl hsw hi ok hg ht he hs) fun Z σ H ⟨F, δ, μ, E, hd, rs, t, L⟩ =>
  llc hw σ H _ ⟨F, δ, μ, _, hd, rs, t, fun F1 H1 μ1 d v e1 hd1 r1 t1 => L.nx F1 H1 μ1 _ _ e1 hd1 ((rs.ext e1).set r1) t1⟩
end
end DL

set_option Elab.async false
set_option linter.all false
set_option maxRecDepth 100000
namespace DL
open PySem L2 PySem.Spec PyProof.Rows

/-! ### defs: as FnOk, where no guard of repr stands around -/
structure FnG (P : Program) (w : World) (K : PySem.W.Frag) (mg : Str → Option Value) (base : Heap) (k : Nat) (f : Addr) (fd : FuncData) (ps : List Str) (sp : Sp) : Prop where
  len : ∀ vs H Q E, sp vs H Q E → vs.length = ps.length
  run : ∀ (A : Around) (outer : List Env) (s : Shared) (H : Hp) (args : Args) (us : List Value) (vs : List V) (Q : VK) (E : XK), Room k A → A.guards = some [] → Env0 P w K mg base A outer s H →
    BindsTo s fd args (ps.zip us) → Vals vs us → sp vs H Q E → codeAny (model P w) A (.call (.ref f) args) (CR (L2N.CX P w) outer P w H s Q E) s
section
variable {P : Program} {w : World} {K : PySem.W.Frag} {mg : Str → Option Value} {base : Heap}
theorem FnG.mono {j k : Nat} {f : Addr} {fd : FuncData} {ps : List Str} {sp : Sp} (F : FnG P w K mg base j f fd ps sp) (h : j ≤ k) : FnG P w K mg base k f fd ps sp :=
  ⟨F.len, fun A outer s H args us vs Q E hr => F.run A outer s H args us vs Q E (hr.mono h)⟩
theorem fnG_of {x qual : Str} {st : Stmt} {f : Addr} {fd : FuncData} {N ps : List Str} {k : Nat} {sp : Sp} (F : Fun K x qual st f fd) (S : FnScope N ps (defScope st)) (len : ∀ vs H Q E, sp vs H Q E → vs.length = ps.length)
    (body : ∀ (cdv : Value) (A : Around) (outer : List Env) (s : Shared) (H : Hp) (vs : List V) (Q : VK) (E : XK), Room k (A.deeper (envOfC qual (defScope st) s.heap.objs.size f cdv)) → A.guards = some [] → sp vs H Q E →
      ∃ t, PSs (cxOf (L2N.CX P w) P w K mg base N qual (defScope st) f cdv A outer s H E) (defBody st) t ∧ t { nx := fun _ H' => Q .non H', rt := Q } (start N vs) H) : FnG P w K mg base (k + 1) f fd ps sp := by
  obtain ⟨oc, od, kV, doc, pm, an, cdv, ct, osl, rfl, lk, hcd⟩ := F.ex
  refine ⟨len, ?_⟩
  intro A outer s H args us vs Q E room gd e0 bnd rel hsp
  have inK : K.In s.heap := e0.mod.kin.keeps fun b o z => (e0.bs b o z).1
  have nolim : s.heap.NoLimit := e0.mod.nolimit.keeps fun b o z => (e0.bs b o z).1
  refine codeAny_call_function room.depth (inK _ _ lk) rfl S.co S.gen rfl (PySem.W.codeRec_of inK hcd) (bnd _ _ _ _ ?_)
  refine wpAny_newFunctionEnv_cells S.kind ?_ ?_
  · rintro ⟨n, v⟩ hy
    rcases S.par n (List.of_mem_zip hy).1 with q | q
    · exact .inl q
    · exact .inr ⟨q, PySem.W.cellsFrom_some _ _ _ (.inl q)⟩
  intro env he s1 inC
  subst he
  refine ⟨nolim.keeps inC.toInCall.keep, codeAny_func ?_⟩
  obtain ⟨t, der, q⟩ := body cdv A outer s H vs Q E (room.deeper _) gd hsp
  have I := inv_start (CX := L2N.CX P w) (E := E) S room.hd e0 (len _ _ _ _ hsp) rel inC
  refine wpAny_mono (der.run [] s1 (start N vs) H _ I q) ?_ fun _ _ z => z
  intro fl s2 sp2
  match fl, sp2 with
  | .ret u, ⟨v, σ2, H2, J, rv, q2⟩ => exact ⟨v, H2, J.os, J.bare, J.base, J.hok, rv, q2⟩
  | .next, ⟨σ2, H2, J, q2⟩ => exact ⟨V.non, H2, J.os, J.bare, J.base, J.hok, rfl, q2⟩
  | .brk, ⟨_, _, _, q2⟩ => exact q2.elim
  | .cont, ⟨_, _, _, q2⟩ => exact q2.elim
end
section
variable {X : Cx} {k : Nat} {f C : Addr} {fd : FuncData} {ps : List Str} {sp : Sp} {dvs : List V} {ds : List Value} {E : XK} {x m : Str} {p pos apos : Pos} {e o : Expr} {es : List Expr} {ta : TE} {t : TA}
theorem run_fnG {pins : List (Addr × Obj)} {σ : L2.St} {H : Hp} {s : Shared} {Q : VK} {us : List Value} {vs : List V} (F : FnG X.prog X.w X.K X.mg X.base k f fd ps sp) (hr : Room k X.A) (hgd : X.A.guards = some []) (hb : Binds X.K fd ps ds) (hd : Vals dvs ds) (hx : Passes (L2N.CX X.prog X.w) X E)
    (I : Inv X pins σ H s) (r : Vals vs us) (h : sp (vs ++ dvs) H Q E) : wpAny (model X.prog X.w) X.A (call (.ref f) us) (EP X pins σ Q) X.xe s := by
  have rel := r.append hd
  have hl : (us ++ ds).length = ps.length := rel.length.symm.trans (F.len _ _ _ _ h)
  refine wpAny_call (codeAny_mono (F.run X.A X.stack s H ⟨us, []⟩ _ _ Q E hr hgd I.env0 (hb s us I.kIn hl) rel h) ?_)
  intro res s2 end2
  match res, end2 with
  | .error e, end2 => exact hx pins σ H s e s2 I end2
  | .ok (.ret u), end2 => exact I.after end2
theorem pe_callG (F : FnG X.prog X.w X.K X.mg X.base k f fd ps sp) (hr : Room k X.A) (hgd : X.A.guards = some []) (hg : Gl X x) (hm : X.mg x = some (.ref f)) (hk : PySem.W.keepIn X.K (.ref f) = true) (hb : Binds X.K fd ps ds) (hd : Vals dvs ds) (hx : Passes (L2N.CX X.prog X.w) X E)
    (ha : PA X (e :: es) t) (hdb : (x == ("__debug__" : Str)) = false := by decide) (he : starEach (e :: es) X.env = (false, eval e X.env) :: starEach es X.env := by rfl) (hpl : (backTo pos (starEach es X.env)).any (·.1) = false := by rfl) :
    PE X (.Call (.Name x p) (e :: es) [] pos) (tCall sp dvs E t) := by
  constructor
  intro pins s σ H Q I h
  refine wpAny_Call_Name_kw (ld_glob I hg hm ?_ hdb)
  refine PySem.W.callWith_K (h₀ := X.base) I.ok.mod.kin hk (thn (ha.run pos pins s σ H _ I h) ?_) he hpl
  rintro us s1 ⟨vs, H1, I1, r, q⟩
  exact ⟨I1.kIn, run_fnG F hr hgd hb hd hx I1 r q⟩
theorem pe_callG0 (F : FnG X.prog X.w X.K X.mg X.base k f fd ps sp) (hr : Room k X.A) (hgd : X.A.guards = some []) (hg : Gl X x) (hm : X.mg x = some (.ref f)) (hk : PySem.W.keepIn X.K (.ref f) = true) (hb : Binds X.K fd ps ds) (hd : Vals dvs ds) (hx : Passes (L2N.CX X.prog X.w) X E)
    (hdb : (x == ("__debug__" : Str)) = false := by decide) : PE X (.Call (.Name x p) [] [] pos) (tCall sp dvs E tNil) := by
  constructor
  intro pins s σ H Q I h
  exact wpAny_Call_Name_kw (ld_glob I hg hm (PySem.W.callWith_K0 I.kIn hk (run_fnG (us := []) F hr hgd hb hd hx I .nil h)) hdb)
end

/-! ### defs over data -/
abbrev DX := Addr → D → Mu → Prop
abbrev DSp := List D → Mu → DK → DX → Prop
/-- the exception that leaves: its class, what its attribute value holds -/
def LX (K : PySem.W.Frag) (O : Org) (e : DX) : XK := fun cls dd H' => ∃ C a v d F' μ', cls = .ref C ∧ dd = some a ∧ H' a = some (.xd [(("value" : Str), v)]) ∧ Hd K O F' H' μ' ∧ Rep K F' H' d v ∧ F'.F a ∧ e C d μ'
def LSp (K : PySem.W.Frag) (c : DSp) : Sp := fun vs H Q E => ∃ F μ ds q e, Hd K ⟨F, H⟩ F H μ ∧ RepL K F H ds vs ∧ c ds μ q e ∧ (∀ F' H' μ' d v, Hd K ⟨F, H⟩ F' H' μ' → Rep K F' H' d v → q d μ' → Q v H') ∧
  ∀ cls dd H', LX K ⟨F, H⟩ e cls dd H' → E cls dd H'
def dCall (c : DSp) (e : DX) (dds : List D) (t : DTA) : DTE := fun δ μ q => t δ μ fun ds μ1 => c (ds ++ dds) μ1 q e
/-- nothing is raised -/
def eN : DX := fun _ _ _ => False
theorem Hd.re {K : PySem.W.Frag} {O O' : Org} {F : Zo} {H : Hp} {μ : Mu} (h : Hd K O F H μ) (x : Ext O'.F O'.H F H) : Hd K O' F H μ := ⟨x, h.fr, h.own⟩
theorem Hd.here {K : PySem.W.Frag} {O : Org} {F : Zo} {H : Hp} {μ : Mu} (h : Hd K O F H μ) : Hd K ⟨F, H⟩ F H μ := h.re (Ext.refl F H)
theorem Hd.back {K : PySem.W.Frag} {O : Org} {F F' : Zo} {H H' : Hp} {μ μ' : Mu} (h : Hd K O F H μ) (k : Hd K ⟨F, H⟩ F' H' μ') : Hd K O F' H' μ' ∧ Ext F H F' H' := ⟨k.re (h.org.trans k.org), k.org⟩
/-- what a derivation knows of where it stands -/
structure Ctx (O : Org) (X : Cx) (k : Nat) (e : DX) : Prop where
  room : Room k X.A
  gd : X.A.guards = some []
  px : Passes (L2N.CX X.prog X.w) X (LX X.K O e)
theorem passesN {X : Cx} {O : Org} : Passes (L2N.CX X.prog X.w) X (LX X.K O eN) := fun pins σ H s e s' I h => by
  obtain ⟨a, B, H', cls, d, _, _, _, _, _, _, _, C, a', v, d', F', μ', _, _, _, _, _, _, z⟩ := h
  exact z.elim
section
variable {O : Org} {X : Cx} {k j : Nat} {f : Addr} {fd : FuncData} {ps : List Str} {c : DSp} {e : DX} {dvs : List V} {ds : List Value} {dds : List D} {x : Str} {p pos : Pos} {a : Expr} {es : List Expr} {t : DTA}
theorem lcall {K : PySem.W.Frag} (hdd : ∀ F H, RepL K F H dds dvs) : ∀ σ H Q, LE K O (dCall c e dds t) σ H Q → tCall (LSp K c) dvs (LX K O e) (LA K O t) σ H Q := fun σ H Q ⟨F, δ, μ, q, hd, rs, t, k⟩ =>
  ⟨F, δ, μ, _, hd, rs, t, fun F1 H1 μ1 ds vs e1 hd1 r1 t1 => ⟨F1, μ1, ds ++ dds, q, e, hd1.here, r1.append (hdd F1 H1), t1, fun F2 H2 μ2 d v hd2 r2 q2 => by
    obtain ⟨h1, h2⟩ := hd1.back hd2
    exact k F2 H2 μ2 d v (e1.trans h2) h1 r2 q2, fun cls dd H' ⟨C, b, v, d, F', μ', h1, h2, h3, h4, h5, h6⟩ => ⟨C, b, v, d, F', μ', h1, h2, h3, (hd1.back h4).1, h5, h6⟩⟩⟩
theorem de_call (F : FnG X.prog X.w X.K X.mg X.base j f fd ps (LSp X.K c)) (hr : Room j X.A) (hgd : X.A.guards = some []) (hg : Gl X x) (hm : X.mg x = some (.ref f)) (hk : PySem.W.keepIn X.K (.ref f) = true) (hb : Binds X.K fd ps ds) (hd : Vals dvs ds) (hdd : ∀ F H, RepL X.K F H dds dvs) (hx : Passes (L2N.CX X.prog X.w) X (LX X.K O e))
    (ha : DA O X (a :: es) t) (hdb : (x == ("__debug__" : Str)) = false := by decide) (he : starEach (a :: es) X.env = (false, eval a X.env) :: starEach es X.env := by rfl) (hpl : (backTo pos (starEach es X.env)).any (·.1) = false := by rfl) :
    DE O X (.Call (.Name x p) (a :: es) [] pos) (dCall c e dds t) := pe_weak (pe_callG F hr hgd hg hm hk hb hd hx ha hdb he hpl) (lcall hdd)
theorem de_call0 (F : FnG X.prog X.w X.K X.mg X.base j f fd ps (LSp X.K c)) (hr : Room j X.A) (hgd : X.A.guards = some []) (hg : Gl X x) (hm : X.mg x = some (.ref f)) (hk : PySem.W.keepIn X.K (.ref f) = true) (hb : Binds X.K fd ps ds) (hd : Vals dvs ds) (hdd : ∀ F H, RepL X.K F H dds dvs) (hx : Passes (L2N.CX X.prog X.w) X (LX X.K O e))
    (hdb : (x == ("__debug__" : Str)) = false := by decide) : DE O X (.Call (.Name x p) [] [] pos) (dCall c e dds dNil) := pe_weak (pe_callG0 F hr hgd hg hm hk hb hd hx hdb) fun σ H Q h => by
  obtain ⟨F1, δ, μ, q, hd1, rs, t1, k1⟩ := h
  have := lcall (t := dNil) hdd σ H Q ⟨F1, δ, μ, q, hd1, rs, t1, k1⟩
  obtain ⟨F2, δ2, μ2, q2, hd2, rs2, t2, k2⟩ := this
  exact k2 F2 H μ2 [] [] (Ext.refl _ _) hd2 RepL.nil t2
end
/-- the slots at the entry -/
def startD (n : Nat) (ds : List D) : DS := ds.map some ++ List.replicate (n - ds.length) none
theorem repS_start {K : PySem.W.Frag} {F : Zo} {H : Hp} {N : List Str} {ds : List D} {vs : List V} (r : RepL K F H ds vs) : RepS K F H (startD N.length ds) (L2.start N vs) := by
  have hl := r.length
  refine ⟨by simp [startD, L2.start, hl], fun i d e => ?_⟩
  unfold startD at e
  unfold L2.start
  by_cases hi : i < ds.length
  · rw [List.getElem?_append_left (by simpa using hi), List.getElem?_map] at e
    cases e2 : ds[i]? with
    | none => rw [e2] at e; simp at e
    | some d' =>
      rw [e2] at e
      have e : d' = d := by simpa using e
      subst e
      obtain ⟨v, h1, h2⟩ := r.get e2
      refine ⟨v, ?_, h2⟩
      rw [List.getElem?_append_left (by rw [List.length_map, ← hl]; exact hi), List.getElem?_map, h1]
      rfl
  · rw [List.getElem?_append_right (by simpa using hi), List.getElem?_replicate] at e
    split at e <;> simp at e
/-- behind the body: what was made on the way may be dropped -/
def endsD (q : DK) : DEnds where
  nx := fun _ μ' => ∃ μ2, Sub μ2 μ' ∧ q .non μ2
  rt := fun d μ' => ∃ μ2, Sub μ2 μ' ∧ q d μ2
section
variable {P : Program} {w : World} {K : PySem.W.Frag} {mg : Str → Option Value} {base : Heap}
/-- THE RULE for a def: its body's derivation, and that the body's reading keeps the contract -/
theorem fnD_of {x qual : Str} {st : Stmt} {f : Addr} {fd : FuncData} {N ps : List Str} {k n : Nat} {c : DSp} {t : DX → DTS} (F : Fun K x qual st f fd) (S : FnScope N ps (defScope st)) (hn : N.length = n) (len : ∀ ds μ q e, c ds μ q e → ds.length = ps.length)
    (der : ∀ (cdv : Value) (A : Around) (outer : List Env) (s : Shared) (H : Hp) (E : XK) (O : Org) (e : DX), Ctx O (cxOf (L2N.CX P w) P w K mg base N qual (defScope st) f cdv A outer s H E) k e →
      L2N.Takes (cxOf (L2N.CX P w) P w K mg base N qual (defScope st) f cdv A outer s H E) (fun cls d _ H2 => LX K O e cls d H2) →
      PassesOwn (model P w) (A.deeper (envOfC qual (defScope st) s.heap.objs.size f cdv)) (envOfC qual (defScope st) s.heap.objs.size f cdv) (cxOf (L2N.CX P w) P w K mg base N qual (defScope st) f cdv A outer s H E).xe →
      DSs O (cxOf (L2N.CX P w) P w K mg base N qual (defScope st) f cdv A outer s H E) (defBody st) (t e))
    (ok : ∀ ds μ q e, c ds μ q e → t e (endsD q) (startD n ds) μ) : FnG P w K mg base (k + 1) f fd ps (LSp K c) := by
  subst hn
  refine fnG_of F S (fun vs H Q E ⟨F, μ, ds, q, e, hd, r, hc, _⟩ => by rw [← r.length]; exact len _ _ _ _ hc) ?_
  rintro cdv A outer s H vs Q E room gd ⟨F0, μ, ds, q, e, hd, r, hc, hq, hE⟩
  have tk : L2N.Takes (cxOf (L2N.CX P w) P w K mg base N qual (defScope st) f cdv A outer s H E) (fun cls d _ H2 => LX K ⟨F0, H⟩ e cls d H2) := by
    have z := L2N.takes_of (X := cxOf (L2N.CX P w) P w K mg base N qual (defScope st) f cdv A outer s H E) (E := E) rfl rfl rfl rfl
    exact z.imp fun cls d _ H' h => hE cls d H' h
  have ow : PassesOwn (model P w) (A.deeper (envOfC qual (defScope st) s.heap.objs.size f cdv)) (envOfC qual (defScope st) s.heap.objs.size f cdv) (cxOf (L2N.CX P w) P w K mg base N qual (defScope st) f cdv A outer s H E).xe :=
    passes_of (X := cxOf (L2N.CX P w) P w K mg base N qual (defScope st) f cdv A outer s H E) rfl
  refine ⟨_, der cdv A outer s H E ⟨F0, H⟩ e ⟨room, gd, L2N.passes_call tk fun _ _ _ _ h => h⟩ tk ow, F0, startD N.length ds, μ, _, hd, repS_start r, ok ds μ q e hc, ⟨?_, ?_, ?_, ?_⟩⟩
  · rintro F1 H1 μ1 δ1 σ1 e1 hd1 rs1 ⟨μ2, s2, q2⟩
    exact hq F1 H1 μ2 .non .non (hd1.sub s2) rfl q2
  · rintro F1 H1 μ1 d v e1 hd1 r1 ⟨μ2, s2, q2⟩
    exact hq F1 H1 μ2 d v (hd1.sub s2) r1 q2
  · intro _ _ _ _ _ _ _ _ z; exact z.elim
  · intro _ _ _ _ _ _ _ _ z; exact z.elim
end
end DL

set_option Elab.async false
set_option linter.all false
set_option maxRecDepth 100000
namespace DL
open PySem L2 PySem.Spec PyProof.Rows

/-! ### built-ins by values -/
def dCB (rd : DC2) (t : DTA) : DTE := fun δ μ q => t δ μ fun ds μ1 => rd ds μ1 q
section
variable {O : Org} {X : Cx} {x : Str} {p pos : Pos} {a : Expr} {es : List Expr} {t : DTA} {id T : String} {r : List V → Hp → VK → Prop} {rd : DC2}
theorem lcb {K : PySem.W.Frag} (h : CallD K r rd) : ∀ σ H Q, LE K O (dCB rd t) σ H Q → tCB r (LA K O t) σ H Q := fun σ H Q ⟨F, δ, μ, q, hd, rs, t, k⟩ =>
  ⟨F, δ, μ, _, hd, rs, t, fun F1 H1 μ1 ds vs e1 hd1 r1 t1 => h O F1 H1 μ1 ds vs q Q hd1 r1 t1 fun F' H' μ' d u e2 hd2 r2 q2 => k F' H' μ' d u (e1.trans e2) hd2 r2 q2⟩
theorem de_callB (hc : CallR X (.builtin id) r) (hd : CallD X.K r rd) (hg : Gl X x) (hm : X.mg x = none) (hv : bootBuiltins x = some (.builtin id)) (ha : DA O X (a :: es) t) (hn : x ≠ "__name__" := by decide) (hdb : (x == ("__debug__" : Str)) = false := by decide)
    (he : starEach (a :: es) X.env = (false, eval a X.env) :: starEach es X.env := by rfl) (hpl : (backTo pos (starEach es X.env)).any (·.1) = false := by rfl) : DE O X (.Call (.Name x p) (a :: es) [] pos) (dCB rd t) := pe_weak (pe_callB hc hg hm hv ha hn hdb he hpl) (lcb hd)
theorem de_callTy (hc : CallR X (.type T) r) (hd : CallD X.K r rd) (hg : Gl X x) (hm : X.mg x = none) (hv : bootBuiltins x = some (.type T)) (ha : DA O X (a :: es) t) (hn : x ≠ "__name__" := by decide) (hdb : (x == ("__debug__" : Str)) = false := by decide)
    (he : starEach (a :: es) X.env = (false, eval a X.env) :: starEach es X.env := by rfl) (hpl : (backTo pos (starEach es X.env)).any (·.1) = false := by rfl) : DE O X (.Call (.Name x p) (a :: es) [] pos) (dCB rd t) := pe_weak (pe_callTy hc hg hm hv ha hn hdb he hpl) (lcb hd)
end
def rLenD : DC2 := fun ds μ q => match ds with
  | [.tup l] => q (.int (l.length : Int)) μ
  | [.str z] => z.length ≤ sizeLine ∧ q (.int (z.length : Int)) μ
  | [d] => match lstOf μ d with | some l => q (.int (l.length : Int)) μ | none => False
  | _ => False
def rAbsD : DC2 := fun ds μ q => match ds with | [.int i] => q (.int (if i < 0 then -i else i)) μ | _ => False
def rMax2D : DC2 := fun ds μ q => match ds with | [.int i, .int j] => q (.int (if j > i then j else i)) μ | _ => False
def rMin2D : DC2 := fun ds μ q => match ds with | [.int i, .int j] => q (.int (if j < i then j else i)) μ | _ => False
/-- list(..): a list, a tuple; frozen, to be written -/
def seqOf (μ : Mu) : D → Option (List D)
  | .tup l => some l
  | d => lstOf μ d
def rListD : DC2 := fun ds μ q => match ds with | [d] => (match seqOf μ d with | some l => q (.lst l) μ | none => False) | _ => False
def rListM : DC2 := fun ds μ q => match ds with | [d] => (match seqOf μ d with | some l => ∀ p, μ p = none → q (.adr p) (updM μ p (.lst l)) | none => False) | _ => False
def rTupleD : DC2 := fun ds μ q => match ds with | [d] => (match seqOf μ d with | some l => q (.tup l) μ | none => False) | _ => False
def rSumD : DC2 := fun ds μ q => match ds with | [d] => ∃ ns : List Int, lstOf μ d = some (ns.map D.int) ∧ q (.int ns.sum) μ | _ => False
section
variable {K : PySem.W.Frag}
theorem repL1 {F : Zo} {H : Hp} {d : D} {vs : List V} (r : RepL K F H [d] vs) : ∃ v, vs = [v] ∧ Rep K F H d v := by
  obtain ⟨v, r1, rfl, h1, h2⟩ := r
  have h2 : r1 = [] := h2
  subst h2
  exact ⟨v, rfl, h1⟩
theorem seq_sq {O : Org} {F : Zo} {H : Hp} {μ : Mu} {d : D} {v : V} {l : List D} (hd : Hd K O F H μ) (r : Rep K F H d v) (e : seqOf μ d = some l) : ∃ a vs, v = .ref a ∧ (SqL K H a vs ∨ SqT K H a vs) ∧ RepL K F H l vs := by
  have lst : lstOf μ d = some l → ∃ a vs, v = .ref a ∧ (SqL K H a vs ∨ SqT K H a vs) ∧ RepL K F H l vs := fun e => by
    obtain ⟨a, vs, h1, h2, h3⟩ := list_sq hd r e
    exact ⟨a, vs, h1, .inl h2, h3⟩
  cases d <;> try exact lst e
  obtain ⟨a, vs, h1, h2, h3⟩ := r
  obtain rfl := Option.some.inj e
  exact ⟨a, vs, h1, .inr h2.sq, h3⟩
theorem cd_len : CallD K (fun xs H Q => ∃ x n, xs = [x] ∧ LenV K x H n ∧ Q (.int n) H) rLenD := by
  intro O F H μ ds vs q Q hd rs t k
  unfold rLenD at t
  split at t
  · rename_i l
    obtain ⟨v, rfl, a, us, rfl, h1, h2⟩ := repL1 rs
    exact ⟨_, us.length, rfl, .inr ⟨us, h1.sq, rfl⟩, k F H μ _ _ (Ext.refl F H) hd (by rw [h2.length]; exact rep_int) t⟩
  · rename_i z
    obtain ⟨v, rfl, h1⟩ := repL1 rs
    obtain rfl : v = .str z := h1
    exact ⟨_, z.length, rfl, ⟨t.1, rfl⟩, k F H μ _ _ (Ext.refl F H) hd rep_int t.2⟩
  · rename_i d _ _
    obtain ⟨v, rfl, h1⟩ := repL1 rs
    split at t
    · rename_i l e
      obtain ⟨a, us, rfl, h2, h3⟩ := list_sq hd h1 e
      exact ⟨_, us.length, rfl, .inl ⟨us, h2, rfl⟩, k F H μ _ _ (Ext.refl F H) hd (by rw [h3.length]; exact rep_int) t⟩
    · exact t.elim
  · exact t.elim
theorem cd_abs : CallD K (fun xs H Q => ∃ i, xs = [.int i] ∧ Q (.int (if i < 0 then -i else i)) H) rAbsD := by
  intro O F H μ ds vs q Q hd rs t k
  unfold rAbsD at t
  split at t
  · rename_i i
    obtain ⟨v, rfl, h1⟩ := repL1 rs
    obtain rfl : v = .int i := h1
    exact ⟨i, rfl, k F H μ _ _ (Ext.refl F H) hd rep_int t⟩
  · exact t.elim
theorem cd_max2 : CallD K (fun xs H Q => ∃ i j, xs = [.int i, .int j] ∧ Q (.int (if j > i then j else i)) H) rMax2D := by
  intro O F H μ ds vs q Q hd rs t k
  unfold rMax2D at t
  split at t
  · rename_i i j
    obtain ⟨v, w, rfl, h1, h2⟩ := repL2 rs
    obtain rfl : v = .int i := h1
    obtain rfl : w = .int j := h2
    exact ⟨i, j, rfl, k F H μ _ _ (Ext.refl F H) hd rep_int t⟩
  · exact t.elim
theorem cd_min2 : CallD K (fun xs H Q => ∃ i j, xs = [.int i, .int j] ∧ Q (.int (if j < i then j else i)) H) rMin2D := by
  intro O F H μ ds vs q Q hd rs t k
  unfold rMin2D at t
  split at t
  · rename_i i j
    obtain ⟨v, w, rfl, h1, h2⟩ := repL2 rs
    obtain rfl : v = .int i := h1
    obtain rfl : w = .int j := h2
    exact ⟨i, j, rfl, k F H μ _ _ (Ext.refl F H) hd rep_int t⟩
  · exact t.elim
theorem cd_list : CallD K (fun xs H Q => ∃ p ys, xs = [.ref p] ∧ (SqL K H p ys ∨ SqT K H p ys) ∧ ∀ l, H l = none → Q (.ref l) (upd H l (.lst ys))) rListD := by
  intro O F H μ ds vs q Q hd rs t k
  unfold rListD at t
  split at t
  · rename_i d
    obtain ⟨v, rfl, h1⟩ := repL1 rs
    split at t
    · rename_i l e
      obtain ⟨a, us, rfl, h2, h3⟩ := seq_sq hd h1 e
      exact ⟨a, us, rfl, h2, fun p hp => k _ _ μ (.lst l) (.ref p) (ext_newF hd hp) (hd.newF hp) ⟨p, us, rfl, ⟨.inr rfl, upd_same⟩, h3.ext (ext_newF hd hp)⟩ t⟩
    · exact t.elim
  · exact t.elim
theorem cd_listM : CallD K (fun xs H Q => ∃ p ys, xs = [.ref p] ∧ (SqL K H p ys ∨ SqT K H p ys) ∧ ∀ l, H l = none → Q (.ref l) (upd H l (.lst ys))) rListM := by
  intro O F H μ ds vs q Q hd rs t k
  unfold rListM at t
  split at t
  · rename_i d
    obtain ⟨v, rfl, h1⟩ := repL1 rs
    split at t
    · rename_i l e
      obtain ⟨a, us, rfl, h2, h3⟩ := seq_sq hd h1 e
      exact ⟨a, us, rfl, h2, fun p hp => k _ _ _ (.adr p) (.ref p) (ext_new hd hp) (hd.newM (m := .lst l) hp ⟨us, upd_same, h3.ext (ext_new hd hp)⟩) rfl (t p (hd.free hp))⟩
    · exact t.elim
  · exact t.elim
theorem cd_tuple : CallD K (fun xs H Q => ∃ p ys, xs = [.ref p] ∧ ((SqL K H p ys ∧ ∀ l, H l = none → Q (.ref l) (upd H l (.tup ys))) ∨ (SqT K H p ys ∧ Q (.ref p) H))) rTupleD := by
  intro O F H μ ds vs q Q hd rs t k
  unfold rTupleD at t
  split at t
  · rename_i d
    obtain ⟨v, rfl, h1⟩ := repL1 rs
    have lst : ∀ l, lstOf μ d = some l → q (.tup l) μ → ∃ p ys, [v] = [V.ref p] ∧ ((SqL K H p ys ∧ ∀ l, H l = none → Q (.ref l) (upd H l (.tup ys))) ∨ (SqT K H p ys ∧ Q (.ref p) H)) := fun l e t => by
      obtain ⟨a, us, rfl, h2, h3⟩ := list_sq hd h1 e
      exact ⟨a, us, rfl, .inl ⟨h2, fun p hp => k _ _ μ (.tup l) (.ref p) (ext_newF hd hp) (hd.newF hp) ⟨p, us, rfl, .inl ⟨.inr rfl, .inl upd_same⟩, h3.ext (ext_newF hd hp)⟩ t⟩⟩
    split at t
    · rename_i l e
      cases d <;> try exact lst l e t
      obtain rfl := Option.some.inj e
      obtain ⟨a, us, rfl, h2, h3⟩ := h1
      exact ⟨a, us, rfl, .inr ⟨h2.sq, k F H μ (.tup _) _ (Ext.refl F H) hd ⟨a, us, rfl, h2, h3⟩ t⟩⟩
    · exact t.elim
  · exact t.elim
theorem cd_sum : CallD K (rSum K) rSumD := by
  intro O F H μ ds vs q Q hd rs t k
  unfold rSumD at t
  split at t
  · rename_i d
    obtain ⟨v, rfl, h1⟩ := repL1 rs
    obtain ⟨ns, e, t⟩ := t
    obtain ⟨a, us, rfl, h2, h3⟩ := list_sq hd h1 e
    obtain rfl := h3.ints
    exact ⟨a, ns, rfl, h2, k F H μ _ _ (Ext.refl F H) hd rep_int t⟩
  · exact t.elim
end

/-! ### l.append(x) -/
def dAppend (tl te : DTE) : DTE := fun δ μ q => tl δ μ fun x μ1 => match x with
  | .adr p => (∃ l, μ1 p = some (.lst l)) ∧ te δ μ1 fun d μ2 => ∃ l, μ2 p = some (.lst l) ∧ l.length < sizeLine ∧ q .non (updM μ2 p (.lst (l ++ [d])))
  | _ => False
section
variable {O : Org} {X : Cx} {o e : Expr} {tl te : DTE} {pos apos : Pos}
theorem de_append (h : PE X (.Call (.Attribute o "append" apos) [e] [] pos) (tBM X.K "list" rAppend (LE X.K O tl) (tCons (LE X.K O te) tNil))) : DE O X (.Call (.Attribute o "append" apos) [e] [] pos) (dAppend tl te) :=
  pe_weak h fun σ H Q ⟨F, δ, μ, q, hd, rs, t, k⟩ => ⟨F, δ, μ, _, hd, rs, t, fun F1 H1 μ1 x v e1 hd1 r1 t1 => by
    cases x <;> first | exact False.elim t1 | skip
    rename_i p
    obtain rfl : v = .ref p := r1
    obtain ⟨⟨l0, hm⟩, t1⟩ := t1
    obtain ⟨_, vs, h1, h2⟩ := hd1.own p _ hm
    refine ⟨.inl ⟨rfl, vs, SqL.of h1⟩, F1, δ, μ1, _, hd1, rs.ext e1, t1, fun F2 H2 μ2 d u e2 hd2 r2 ⟨l, hm2, hl, t2⟩ => ?_⟩
    obtain ⟨_, ws, h3, h4⟩ := hd2.own p _ hm2
    have ex := ext_set (o := HO.lst (ws ++ [u])) hd2 hm2
    exact ⟨p, ws, u, rfl, rfl, h3, by rw [← h4.length]; exact hl, k F2 _ _ .non .non ((e1.trans e2).trans ex) (hd2.set (m' := .lst (l ++ [d])) hm2 ⟨_, upd_same, (h4.ext ex).append (.cons (r2.ext ex) RepL.nil)⟩) rfl t2⟩⟩
end

/-! ### the law's own end -/
def spLawD : DSp := fun ds _ q _ => ∃ ns : List Int, ds = [.rol (ns.map D.int)] ∧ ns.length ≤ 63 ∧ ∀ μ', q (.bl true) μ'
theorem repL_ints {K : PySem.W.Frag} {F : Zo} {H : Hp} : ∀ ns : List Int, RepL K F H (ns.map D.int) (ns.map V.int) := RepL.of_ints
/-- the state at the law's call: only the script may be tracked -/
theorem law_state {K : PySem.W.Frag} {H : Hp} {a : Addr} {ns : List Int} (h : H a = none ∧ (∀ H', SqL K H' a (ns.map V.int)) ∨ Rd H a (.lst (ns.map V.int)) ∧ H a ≠ none) :
    ∃ F : Zo, Hd K ⟨F, H⟩ F H (fun _ => none) ∧ RepL K F H [.rol (ns.map D.int)] [.ref a] := by
  rcases h with ⟨h0, h⟩ | ⟨h, h0⟩
  · exact ⟨⟨fun _ => False, fun _ => False, fun _ z => z⟩, ⟨Ext.refl _ _, fun _ z => z.elim, fun _ _ z => nomatch z⟩, .cons ⟨a, _, rfl, .inr h, RepL.of_ints ns⟩ RepL.nil⟩
  · refine ⟨⟨fun b => b = a, fun b => b = a, fun _ z => z⟩, ⟨Ext.refl _ _, fun b z => ?_, fun _ _ z => nomatch z⟩, .cons ⟨a, _, rfl, .inl ⟨rfl, h⟩, RepL.of_ints ns⟩ RepL.nil⟩
    have z : b = a := z
    rw [z]; exact h0
theorem lawG_call {P : Program} {w : World} {K : PySem.W.Frag} {mg mb : Str → Option Value} {k : Nat} {fa a : Addr} {fd : FuncData} {x : Str} {s1 : Shared} {vs : List Value} {ns : List Int}
    (inK : K.In s1.heap) (glob : s1.heap.Ns mainGlobals mg) (blt : s1.heap.Ns builtinsNs mb) (boot : ∀ x : Str, x ≠ "__name__" → mb x = bootBuiltins x) (nolim : s1.heap.NoLimit) (nogen : s1.gens = #[])
    (obj : s1.heap.get? a = some { cls := .type "list", data := .seq vs.toArray }) (hints : IntsAre vs ns) (len : ns.length ≤ 63) (room : Room k callerA)
    (F : ∀ base : Heap, K.In base → base.Ns mainGlobals mg → FnG P w K mg base k fa fd [x] (LSp K spLawD)) (bind : ∀ (s : Shared) (u : Value), BindsTo s fd ⟨[u], []⟩ [(x, u)]) :
    codeAny (model P w) callerA (.call (.ref fa) ⟨[.ref a], []⟩) (fun r s' => r = .ok (.ret (.bool true)) ∧ OldK s1.heap s'.heap ∧ s'.os = s1.os ∧ AllBare s'.gens) s1 := by
  have rel := vals_ints hints
  have lenV := hints.length
  have line : ns.length ≤ sizeLine := Nat.le_trans len (by decide)
  -- H tracks the script alone, or nothing
  have go : ∀ H : Hp, (∀ b, H b ≠ none → b = a) → HOk P w H s1.heap → (H a ≠ none → K.lookup a = none ∧ ∃ o xs, H a = some (.frz o (.lst xs))) →
      (H a = none ∧ (∀ H', SqL K H' a (ns.map V.int)) ∨ Rd H a (.lst (ns.map V.int)) ∧ H a ≠ none) →
      codeAny (model P w) callerA (.call (.ref fa) ⟨[.ref a], []⟩) (fun r s' => r = .ok (.ret (.bool true)) ∧ OldK s1.heap s'.heap ∧ s'.os = s1.os ∧ AllBare s'.gens) s1 := by
    intro H only hok trk st
    have keep : ∀ {b : Addr} {o : Obj}, s1.heap.get? b = some o → b ≠ a ∨ H a = none → (hidT s1.heap H).get? b = some o := fun {b o} e z => hidT_get e <| by
      cases q : H b with
      | none => rfl
      | some u =>
        have hb := only b (by rw [q]; simp)
        rcases z with z | z
        · exact absurd hb z
        · rw [hb, z] at q; cases q
    have dicts : ∀ {b : Addr} {m : Str → Option Value}, s1.heap.Ns b m → (hidT s1.heap H).Ns b m := by
      rintro b m ⟨o, es, ep, e, d, r⟩
      refine ⟨o, es, ep, keep e (.inl fun z => ?_), d, r⟩
      rw [z, obj] at e
      cases e
      cases (show Data.seq vs.toArray _ = Data.dict es ep from d)
    have inB : K.In (hidT s1.heap H) := fun b o e => keep (inK b o e) <| by
      by_cases z : H a = none
      · exact .inr z
      · refine .inl fun h => ?_
        rw [h, (trk z).1] at e; cases e
    have md : Mod K mg (hidT s1.heap H) := ⟨inB, dicts glob, ⟨mb, dicts blt, boot⟩, let ⟨mc, h1, h2⟩ := nolim; ⟨mc, dicts h1, h2⟩⟩
    have none_mem : ∀ b : Addr, b ∉ (frs ([] : List Env)) := fun b z => by
      have z : b ∈ ([] : List Addr) := z
      simp at z
    have e0 : Env0 P w K mg (hidT s1.heap H) callerA [] s1 H := ⟨rfl, md, fun b o e => of_hidT e, Nat.le_of_eq (hidT_size _ _), trivial, fun b hb => absurd hb (none_mem b), hok, .of_eq nogen⟩
    obtain ⟨F0, hd0, r0⟩ := law_state st
    refine codeAny_mono ((F _ inB (dicts glob)).run callerA [] s1 H ⟨[.ref a], []⟩ [.ref a] [.ref a] (fun v _ => v = .bl true) (fun _ _ _ => False) room rfl e0 (bind s1 (.ref a)) (.cons rfl .nil)
      ⟨F0, fun _ => none, _, fun d _ => d = .bl true, eN, hd0, r0, ⟨ns, rfl, len, fun _ => rfl⟩, fun F' H' μ' d v _ r q => by subst q; exact r, fun cls dd H' ⟨_, _, _, _, _, _, _, _, _, _, _, _, z⟩ => z⟩) ?_
    intro r s2 h
    match r, h with
    | .error e, ⟨_, _, _, _, _, _, _, _, _, _, _, _, z⟩ => exact z.elim
    | .ok (.ret u), ⟨v, H', os, bare, un, hok', r', q⟩ =>
      have q : v = .bl true := q
      subst q
      obtain rfl : u = Value.bool true := r'
      refine ⟨rfl, OldK.of_keep fun b o e => ?_, os, bare⟩
      cases q : H b with
      | none => exact un.keep b o e q (none_mem b) (by simp)
      | some u =>
        have hb := only b (by rw [q]; simp)
        subst hb
        obtain ⟨_, ob, xs, z⟩ := trk (by rw [q]; simp)
        obtain ⟨e1, _⟩ := hok b _ z
        obtain ⟨e2, _⟩ := hok' b _ (un.frzs b ob _ z)
        rw [e] at e1
        cases e1
        exact e2
  cases hk : K.lookup a with
  | some o =>
    have e := inK a o hk
    rw [obj] at e
    cases e
    exact go (fun _ => none) (fun b z => absurd rfl z) (fun b u z => nomatch z) (fun z => absurd rfl z) (.inl ⟨rfl, fun H' => .inr ⟨_, vs.toArray, _, hk, rfl, rfl, rfl, by rw [List.size_toArray, lenV]; exact line, by simpa using rel⟩⟩)
  | none =>
    have at_ : (fun b => if b = a then some (HO.frz { cls := .type "list", data := .seq vs.toArray } (.lst (ns.map V.int))) else none) a = some (HO.frz { cls := .type "list", data := .seq vs.toArray } (.lst (ns.map V.int))) := if_pos rfl
    refine go (fun b => if b = a then some (.frz { cls := .type "list", data := .seq vs.toArray } (.lst (ns.map V.int))) else none) (fun b z => ?_) (fun b u z => ?_) (fun _ => ⟨hk, _, _, at_⟩) (.inr ⟨.inr ⟨_, at_⟩, by simp⟩)
    · by_cases hb : b = a
      · exact hb
      · exact absurd (if_neg hb) z
    · by_cases hb : b = a
      · subst hb
        have z := at_.symm.trans z
        cases z
        exact ⟨obj, by rw [List.length_map]; exact line, vs, _, rel, obj⟩
      · have z : (if b = a then some (HO.frz { cls := .type "list", data := .seq vs.toArray } (.lst (ns.map V.int))) else none) = some u := z
        rw [if_neg hb] at z
        cases z
/-- the goal that k_head leaves (case hc), from the law's promise over data -/
theorem walkD {l : PySem.W.OpenLaw} {k : Nat} {q : Program} {loose : List Str} {XP : (Str → Option Value) → Heap → Prop} {YP : World → Heap → Prop} {d : DefRec} {K : Params → PySem.W.Frag} {x : Str}
    (most : l.most = some 63) (nodef : d.params.defaults = []) (room : Room k callerA) (inK : ∀ (w : World) (h : Heap), YP w h → (K w.params).In h)
    (F : ∀ (w : World) (mg : Str → Option Value) (fa : Addr) (h : Heap), (K w.params).In h → h.Ns mainGlobals mg → mg d.name = some (.ref fa) →
      ∃ fd : FuncData, (∀ (s : Shared) (u : Value), BindsTo s fd ⟨[u], []⟩ [(x, u)]) ∧
        ∀ base : Heap, (K w.params).In base → base.Ns mainGlobals mg → FnG l.prog w (K w.params) mg base k fa fd [x] (LSp (K w.params) spLawD)) :
    PySem.W.WalkO q loose XP YP l.row.toRowW d [] (fun f vs => PySem.call f vs) := by
  refine Att.attach_call most nodef ?_
  intro w s0 s1 mg mb fa o pm cd doc a vs ns G Y ho hdo hcd hmg hobj hints hlen hgen
  obtain ⟨fd, bnd, hF⟩ := F w mg fa _ (inK w _ Y) G.T.g hmg
  exact lawG_call (inK w _ Y) G.T.g G.T.b G.T.builtins G.T.nolimit hgen hobj hints hlen room hF bnd
end DL

namespace DL
open PySem L2 PySem.Spec PyProof.Rows
/-! ### a def by its name -/
structure Fd (P : Program) (w : World) (K : PySem.W.Frag) (mg : Str → Option Value) (base : Heap) (x : Str) (k : Nat) (ps : List Str) (c : DSp) : Prop where
  ex : ∃ (f : Addr) (fd : FuncData), FnG P w K mg base k f fd ps (LSp K c) ∧ mg x = some (.ref f) ∧ PySem.W.keepIn K (.ref f) = true ∧ Binds K fd ps []
section
variable {O : Org} {X : Cx} {j : Nat} {ps : List Str} {c : DSp} {e : DX} {x : Str} {p pos : Pos} {a : Expr} {es : List Expr} {t : DTA}
theorem de_callF (h : Fd X.prog X.w X.K X.mg X.base x j ps c) (hr : Room j X.A) (hgd : X.A.guards = some []) (hx : Passes (L2N.CX X.prog X.w) X (LX X.K O e)) (hg : Gl X x) (ha : DA O X (a :: es) t) (hdb : (x == ("__debug__" : Str)) = false := by decide)
    (he : starEach (a :: es) X.env = (false, eval a X.env) :: starEach es X.env := by rfl) (hpl : (backTo pos (starEach es X.env)).any (·.1) = false := by rfl) : DE O X (.Call (.Name x p) (a :: es) [] pos) (dCall c e [] t) := by
  obtain ⟨f, fd, F, hm, hk, hb⟩ := h.ex
  exact de_call F hr hgd hg hm hk hb .nil (fun _ _ => RepL.nil) hx ha hdb he hpl
theorem de_callF0 (h : Fd X.prog X.w X.K X.mg X.base x j ps c) (hr : Room j X.A) (hgd : X.A.guards = some []) (hx : Passes (L2N.CX X.prog X.w) X (LX X.K O e)) (hg : Gl X x) (hdb : (x == ("__debug__" : Str)) = false := by decide) : DE O X (.Call (.Name x p) [] [] pos) (dCall c e [] dNil) := by
  obtain ⟨f, fd, F, hm, hk, hb⟩ := h.ex
  exact de_call0 F hr hgd hg hm hk hb .nil (fun _ _ => RepL.nil) hx hdb
/-- a name that is read for the last time: what it names is frozen -/
def dVarF (i : Nat) : DTE := fun δ μ q => match δ[i]? with
  | some (some (.adr p)) => match μ p with
    | some (.lst l) => q (.lst l) (delM μ p)
    | _ => False
  | some (some d) => q d μ
  | _ => False
theorem dvF (i : Nat) {x : Str} {pos : Pos} (hN : X.N[i]? = some x := by rfl) (hv : Vis X.env.scope x := by first | exact Or.inl rfl | exact Or.inr (Or.inl rfl) | exact Or.inr (Or.inr rfl)) (hd : (x == ("__debug__" : Str)) = false := by decide)
    (hcd : (x == ("__classdict__" : Str)) = false := by decide) : DE O X (.Name x pos) (dVarF i) := pe_weak (pe_var hN hv hd hcd) fun σ H Q ⟨F, δ, μ, q, hd, rs, t, k⟩ => by
  unfold dVarF at t
  split at t
  · rename_i p e
    obtain ⟨v, h1, h2⟩ := rs.at_ i _ e
    obtain rfl : v = .ref p := h2
    split at t
    · rename_i l hm
      obtain ⟨_, vs, h3, h4⟩ := hd.own p _ hm
      obtain ⟨hf, ex⟩ := hd.frz hm
      exact ⟨_, h1, k _ H _ (.lst l) (.ref p) ex hf ⟨p, vs, rfl, ⟨.inr rfl, h3⟩, h4.ext ex⟩ t⟩
    · exact t.elim
  · rename_i d _ e
    obtain ⟨v, h1, h2⟩ := rs.at_ i d e
    exact ⟨v, h1, k F H μ d v (Ext.refl F H) hd h2 t⟩
  · exact t.elim
/-- a built-in function of a module that is imported by its name (gcd) -/
theorem de_callFun {id : String} {r : List V → Hp → VK → Prop} {rd : DC2} (h : PE X (.Call (.Name x p) (a :: es) [] pos) (tCB r (LA X.K O t))) (hd : CallD X.K r rd) : DE O X (.Call (.Name x p) (a :: es) [] pos) (dCB rd t) := pe_weak h (lcb hd)
end
end DL

set_option Elab.async false
set_option linter.all false
set_option maxRecDepth 100000
set_option maxHeartbeats 2000000
namespace PySem
namespace ErrX
open PySem.W PySem.Calls PyProof.Rows PySem.HandSPX
/-! ### the text of __init__ -/
def iA (p1 p2 : Pos) : Arguments := { posonlyargs := [], args := [{ arg := "self", annotation := none, pos := p1 }, { arg := "value", annotation := none, pos := p2 }], vararg := none, kwonlyargs := [], kw_defaults := [], kwarg := none, defaults := [] }
def iB (q1 q2 q3 q4 : Pos) : List Stmt := [.Assign [.Attribute (.Name "self" q1) "value" q2] (.Name "value" q3) q4]
def iS : Scope := { kind := .function, names := [(PySem.Str.ofString "self", .local), (PySem.Str.ofString "value", .local)], isGenerator := false, isCoroutine := false, more := [] }
/-- what the written part says of Low, at C, and of its __init__, at fI -/
structure ErrTxt (K : Frag) (mg : Str → Option Value) (nm : Str) (C fI : Addr) : Prop where
  gC : mg nm = some (.ref C)
  cls : ∃ nm q N bs bm sn sub ab col dd k0 k1 k2 k3 k5, K.lookup C = some (excClassObj nm q C N bs bm true sn sub ab col dd k0 k1 k2 k3 k5 "ValueError.__new__") ∧ refsVE bm = true
  sa : findIn K (.ref C) "__setattr__" = some (some (.builtin "object.__setattr__"))
  ga : findIn K (.ref C) "__getattribute__" = some (some (.builtin "BaseException.__getattribute__"))
  gg : findIn K (.ref C) "__getattr__" = some none
  noN : findIn K (.ref C) "value" = some none
  iC : findIn K (.ref C) "__init__" = some (some (.ref fI))
  tC : typeIn K (.ref fI) = some (.type "function")
  kC : keepIn K (.ref C) = true
  exC : subIn K (.ref C) (.type "BaseException") = some true
  tyC : typeIn K (.ref C) = some (.type "type")
  hdC : hasDictIn K C = true
  te : exmOne K (.ref C) (.ref C) = some true
  fn : ∃ (oc : Value) (od : Option Addr) (doc pm : Value) (an : Option Addr) (cdv ct : Value) (osl : Array (Option Value)) (p1 p2 q1 q2 q3 q4 : Pos),
    K.lookup fI = some ⟨oc, od, .func (fnOf "__init__" "StrideError.__init__" (iA p1 p2) (iB q1 q2 q3 q4) iS .none .none doc pm an cdv ct), osl⟩ ∧ codeIn K cdv "StrideError.__init__" = true
theorem one_size (v : Value) : [v].length ≤ sizeLine := by
  rw [sizeLine_eq]
  exact (by decide : 1 ≤ 16777216)
theorem kept_but {K : Frag} {h h' : Heap} {x : Addr} (X : K.In h) (hx : K.lookup x = none) (k : ∀ b o, b ≠ x → h.get? b = some o → h'.get? b = some o) : K.In h' := fun a o e =>
  k a o (fun z => by rw [z, hx] at e; cases e) (X a o e)
theorem ldC {M : Model} {s : Shared} {name : Str} {scope : Scope} {L a : Addr} {cd : Value} {m : Str → Option Value} {x : Str} {pos : Pos} {v : Value} {Q : Value → Shared → Prop} {A : Around} {E : Value → Shared → Prop} (hn : s.heap.Ns L m) (hv : m x = some v) (h : Q v s)
    (hk : scope.kind = .function := by rfl) (hl : (envOfC name scope L a cd).kindOf x = some .local := by rfl) (hd : (x == ("__debug__" : Str)) = false := by decide) :
    wpAny M A (eval (.Name x pos) (envOfC name scope L a cd)) Q E s := wpAny_Name (wpAny_loadName_local hk hl hn hv h) hd
/-- what __init__ leaves of a fresh exception at x -/
structure InitEnd (h h' : Heap) (x C dx t1 : Addr) (v : Value) : Prop where
  keep : ∀ b o, b ≠ x → h.get? b = some o → h'.get? b = some o
  obj : h'.get? x = some { cls := .ref C, dict := some dx, data := .fields #[.ref t1, .none, .none, .none, .bool false, .none] }
  dbig : h.objs.size ≤ dx
  dne : dx ≠ x
  ns : h'.Ns1 dx (fun y => if y = "value" then some v else none)
/-- a made Low -/
structure OwnMade (h h' : Heap) (e C d : Addr) (v : Value) : Prop where
  keep : ∀ b o, h.get? b = some o → h'.get? b = some o
  new : h.objs.size ≤ e
  obj : ∃ oe vs, h'.get? e = some oe ∧ oe.cls = .ref C ∧ oe.dict = some d ∧ oe.data = .fields vs ∧ vs[1]? = some .none ∧ vs[2]? = some .none
  dbig : h.objs.size ≤ d
  dne : d ≠ e
  ns : h'.Ns1 d (fun y => if y = "value" then some v else none)
section
variable {prog : Program} {w : World} {A : Around} {E : Value → Shared → Prop} {R : Result → Shared → Prop} {s : Shared} {K : Frag} {mg : Str → Option Value} {nn : Str} {C fI : Addr}
theorem err_init (T : ErrTxt K mg nn C fI) {x t0 : Addr} {v : Value} (X : K.In s.heap) (hlim : s.heap.NoLimit) (hx : s.heap.get? x = some (excO C t0)) (hnx : K.lookup x = none) (hroom : A.depth < recursionLimit)
    (hq : ∀ h' tk dx, InitEnd s.heap h' x C dx t0 v → R (.ok (.ret .none)) { s with heap := h', toks := tk }) :
    codeAny (model prog w) A (.call (.ref fI) ⟨[.ref x, v], []⟩) R s := by
  obtain ⟨oc, od, doc, pm, an, cdv, ct, osl, p1, p2, q1, q2, q3, q4, ho, hcd⟩ := T.fn
  obtain ⟨nm, q, N, bs, bm, sn, sub, ab, col, dd, k0, k1, k2, k3, k5, hC, hbm⟩ := T.cls
  have hcl : clsIn K C = some { name := nm, bases := bs, mro := .ref C :: bm, ns := N, qualname := q, hasDict := true, slotNames := sn, subclasses := sub, abstract := ab, collection := col, hasDel := false } := by unfold clsIn; rw [hC] <;> rfl
  refine Att.call_fn (binds := [("self", .ref x), ("value", v)]) X hlim ho hcd hroom (BindsTo.of_eq (by first | rfl | with_unfolding_all rfl)) (by first | rfl | decide | with_unfolding_all rfl) (fun s₁ IC => ?_) rfl rfl rfl
  obtain ⟨h₁, tk₁, rfl⟩ := IC.toInCall.same
  have k : ∀ b o, s.heap.get? b = some o → h₁.get? b = some o := IC.toInCall.keep
  have hn := IC.toInCall.ns
  have hxL : s.heap.objs.size ≠ x := Nat.ne_of_gt (Heap.lt_size hx)
  have X₁ : K.In h₁ := X.keeps k
  have hx₁ := k _ _ hx
  -- self.by = by
  show wpAny _ _ (execs _ _) _ _ _
  refine wpAny_execs_cons (plainObj_wpAny_Assign_Attribute ?_)
  refine ldC (v := v) hn (by first | rfl | with_unfolding_all rfl | kernel_rfl) (ldC (v := .ref x) hn (by first | rfl | with_unfolding_all rfl | kernel_rfl) ?_)
  refine set_plain X₁ (ox := excO C t0) (od := none) ⟨hx₁, rfl, rfl, trivial⟩ T.sa ?_
  refine exc_osa X₁ hx₁ hcl (show refsVE (.ref C :: bm) = true from hbm) rfl T.noN (fun h₃ tk₃ dx k₃ dn dne hx₃ hn₃ => ?_)
  show wpAny _ _ (execs _ _) _ _ _
  have z : s.heap.objs.size < h₁.objs.size := hn.lt
  exact wpAny_execs_nil (hq h₃ tk₃ dx ⟨fun b o hb e => k₃ b o hb (k b o e), hx₃, Nat.le_of_lt (Nat.lt_of_lt_of_le z dn), dne, hn₃⟩)
theorem err_made (T : ErrTxt K mg nn C fI) {v : Value} (X : K.In s.heap) (hlim : s.heap.NoLimit) (hroom : A.depth + 1 < recursionLimit)
    (hq : ∀ h' tk e d, OwnMade s.heap h' e C d v → R (.ok (.ret (.ref e))) { s with heap := h', toks := tk }) :
    codeAny (model prog w) A (.call (.ref C) ⟨[v], []⟩) R s := by
  obtain ⟨nm, q, N, bs, bm, sn, sub, ab, col, dd, k0, k1, k2, k3, k5, hC, hbm⟩ := T.cls
  obtain ⟨hp, g, dr, tk, os⟩ := s
  have k : ∀ b o, hp.get? b = some o → ((hp.push (kdv_tup [v])).push (excO C hp.objs.size)).get? b = some o := fun b o e => Heap.get?_push_of_some _ (Heap.get?_push_of_some _ e)
  have hget : ((hp.push (kdv_tup [v])).push (excO C hp.objs.size)).get? (hp.objs.size + 1) = some (excO C hp.objs.size) := by heap_get
  have hnx : K.lookup (hp.objs.size + 1) = none := by
    cases e : K.lookup (hp.objs.size + 1) with
    | none => rfl
    | some o =>
      have z : hp.get? (hp.objs.size + 1) = some o := X _ _ e
      exact absurd (Nat.lt_of_succ_lt (Heap.lt_size z)) (Nat.lt_irrefl _)
  refine call_own F.excBase_ValueError (fun X => refsVE_contains X bm hbm) (X _ _ hC) (looks_findIn X T.iC) (fun self => bind_fn X self T.tC) (one_size v) ?_
  refine err_init (s := ⟨(hp.push (kdv_tup [v])).push (excO C hp.objs.size), g, dr, tk, os⟩) T (X.keeps k) (hlim.keeps k) hget hnx ?_ fun h' tk' dx ⟨k', hx, dn, dne, hns⟩ => ?_
  · show A.depth + 1 < recursionLimit
    exact hroom
  · have old : ∀ b o, hp.get? b = some o → h'.get? b = some o := fun b o e => k' b o (Nat.ne_of_lt (Nat.lt_succ_of_lt (Heap.lt_size e))) (k b o e)
    have z : hp.objs.size + 1 + 1 ≤ dx := by
      first
        | (simpa only [Heap.size_push] using dn)
        | exact dn
        | (have q := dn; rw [Heap.size_push, Heap.size_push] at q; exact q)
    exact ⟨rfl, hq h' tk' (hp.objs.size + 1) dx ⟨old, Nat.le_succ _, ⟨_, _, hx, rfl, rfl, rfl, rfl, rfl⟩, Nat.le_trans (Nat.le_trans (Nat.le_succ _) (Nat.le_succ _)) z, dne, hns⟩⟩
end
end ErrX
end PySem
namespace L2
open PySem PySem.Spec PyProof.Rows
theorem relO_err {v : V} {v' : Value} (r : RelV v v') (f : Str) : RelO (List.lookup f [(("value" : Str), v)]) (if f = "value" then some v' else none) := by
  by_cases hw : f = "value"
  · subst hw
    rw [if_pos rfl]
    have q : List.lookup ("value" : Str) [(("value" : Str), v)] = some v := by simp [List.lookup]
    rw [q]
    exact r
  · rw [if_neg hw]
    have qw : (f == ("value" : Str)) = false := by simpa using hw
    have q2 : List.lookup f [(("value" : Str), v)] = none := by simp [List.lookup, qw]
    rw [q2]
    trivial
section
variable {X : Cx} {nn : Str} {C fI : Addr}
/-- Low(e) -/
def tMkErr (C : Addr) (ta : TA) : St → Hp → XK → Prop := fun σ H Q => ta σ H fun vs H1 => ∃ v, vs = [v] ∧ ∀ d, H1 d = none → Q (.ref C) (some d) (upd H1 d (.xd [(("value" : Str), v)]))
theorem pmk_err {a : Expr} {ta : TA} {p pos : Pos} {k : Nat} (T : PySem.ErrX.ErrTxt X.K X.mg nn C fI) (hr : Room k X.A) (ha : PA X [a] ta) (hg : Gl X nn := by rfl) (hdb : (nn == ("__debug__" : Str)) = false := by decide)
    (he : starEach (a :: []) X.env = (false, eval a X.env) :: starEach [] X.env := by rfl) (hpl : (backTo pos (starEach [] X.env)).any (·.1) = false := by rfl) :
    L2N.PMk X (.Call (.Name nn p) [a] [] pos) (tMkErr C ta) := by
  intro pins s σ H Q I h
  refine wpAny_Call_Name_kw (ld_glob I hg T.gC ?_ hdb)
  refine PySem.W.callWith_K (h₀ := X.base) I.ok.mod.kin T.kC (thn (ha.run pos pins s σ H _ I h) fun us s1 hh => ?_) he hpl
  obtain ⟨vs, H1, I1, r1, v, ev, q1⟩ := hh
  subst ev
  refine ⟨I1.kIn, ?_⟩
  cases r1 with
  | cons rv rn =>
    rename_i v' us'
    cases rn
    show wpAny _ _ (call (.ref C) [v']) _ _ _
    have hlim := I1.nolimit
    obtain ⟨hp, g, dr, tk, os⟩ := s1
    refine wpAny_call (PySem.ErrX.err_made T I1.kIn hlim (by have := hr.dp; omega) fun h' tk' e d M => ?_)
    show L2N.MkP X pins σ Q (.ref e) ⟨h', g, dr, tk', os⟩
    obtain ⟨oe, fv, hoe, hc, hd, hdat, h1, h2⟩ := M.obj
    have hns := M.ns
    obtain ⟨G', g1, g2⟩ := restrict h' fun b => decide (b ≠ e)
    have gk : ∀ b, b ≠ e → G'.get? b = h'.get? b := fun b hb => g1 b (decide_eq_true hb)
    have ge : G'.get? e = none := g2 e (by simp)
    have old : ∀ b o, hp.get? b = some o → G'.get? b = some o := fun b o q => (gk b (Nat.ne_of_lt (Nat.lt_of_lt_of_le (Heap.lt_size q) M.new))).trans (M.keep b o q)
    have ob : ObjOk X.prog X.w (upd H1 d (.xd [(("value" : Str), v)])) G' d (.xd [(("value" : Str), v)]) :=
      ⟨_, hns.at (fun o q => (gk d M.dne).trans q), fun f => relO_err rv f⟩
    have J : Inv X pins σ (upd H1 d (.xd [(("value" : Str), v)])) ⟨G', g, dr, tk', os⟩ := I1.laid (t' := tk') old M.dbig ob
    refine ⟨e, oe, fv, ⟨G', g, dr, tk', os⟩, _, .ref C, some d, rfl, J, fun b o q => ?_, ge, hoe, ⟨hc, hd, fun vs e => by rw [hdat] at e; cases e; exact h2⟩, hdat, h1, ?_, rfl, I1.bare, raises_own T.exC T.tyC, q1 d (I1.hok.fresh M.dbig)⟩
    · by_cases hb : b = e
      · have q' : G'.get? b = some o := q
        rw [hb, ge] at q'; cases q'
      · exact (gk b hb).symm.trans q
    · rw [upd_ne (Ne.symm M.dne)]
      exact I1.hok.fresh M.new
/-- raise Low(e) -/
def tRaiseErr (C : Addr) (W : WX) (ta : TA) : TS := fun _ σ H => tMkErr C ta σ H fun cls d H' => W cls d σ H'
theorem ps_raiseErr {a : Expr} {ta : TA} {W : WX} {p pos pos2 : Pos} {k : Nat} (hc : X.calm = true) (T : PySem.ErrX.ErrTxt X.K X.mg nn C fI) (hr : Room k X.A) (tk : L2N.Takes X W) (ha : PA X [a] ta) (hg : Gl X nn := by rfl) (hdb : (nn == ("__debug__" : Str)) = false := by decide)
    (he : starEach (a :: []) X.env = (false, eval a X.env) :: starEach [] X.env := by rfl) (hpl : (backTo pos (starEach [] X.env)).any (·.1) = false := by rfl) :
    PS X (.Raise (some (.Call (.Name nn p) [a] [] pos)) none pos2) (tRaiseErr C W ta) := L2N.ps_raise hc tk (pmk_err T hr ha hg hdb he hpl)
/-- low.by, low the exception that the suite holds (at a; its class cls, its dict d) -/
def tByErr (C : Addr) (a : Addr) (cls : Value) (d : Option Addr) (te : TE) : TE := fun σ H Q => te σ H fun x H1 => x = .ref a ∧ cls = .ref C ∧ ∃ (dd : Addr) (v : V), d = some dd ∧ H1 dd = some (.xd [(("value" : Str), v)]) ∧ Q v H1
theorem pe_byErr {a : Addr} {oe : Obj} {cls : Value} {d : Option Addr} {pn : List (Addr × Obj)} {e : Expr} {te : TE} {pos : Pos} (T : PySem.ErrX.ErrTxt X.K X.mg nn C fI) (hz : Zc cls d oe) (hf : ∃ vs, oe.data = .fields vs) (he : PE (X.suite a ((a, oe) :: pn)) e te)
    (hb : attributeBase e "value" X.env (eval e X.env) = eval e X.env := by rfl) :
    PE (X.suite a ((a, oe) :: pn)) (.Attribute e "value" pos) (tByErr C a cls d te) := by
  refine ⟨fun pins s σ H Q I h => ?_⟩
  refine attr_of hb (thn (he.run pins s σ H _ I h) fun u s1 hh => ?_)
  obtain ⟨x, H1, I1, rx, ex, ec, dd, v, ed, ea, q⟩ := hh
  subst ex
  obtain rfl : u = Value.ref a := rx
  subst ec
  subst ed
  obtain ⟨ha, _⟩ := I1.pin (a, oe) (List.mem_append_left _ List.mem_cons_self)
  obtain ⟨vs, hd⟩ := hf
  have hx : ObjOk X.prog X.w H1 s1.heap dd (.xd [(("value" : Str), v)]) := I1.hok dd _ ea
  obtain ⟨mA, hns, hr⟩ := hx
  obtain ⟨od, ho, hl⟩ := lookIn_ns hns
  have l : List.lookup ("value" : Str) [(("value" : Str), v)] = some v := by simp [List.lookup]
  obtain ⟨u, hu, ru⟩ := RelO.some_of (v := v) (o := mA "value") (by rw [← l]; exact hr "value")
  have J : PySem.W.InstAt s1.heap a oe C (some od) := ⟨ha, hz.1, by unfold PySem.W.notCls; rw [hd] <;> rfl, by rw [hz.2]; exact ho⟩
  exact HandSPX.exc_get I1.kIn J T.ga T.gg T.exC (PySem.W.findObj_own T.hdC T.noN rfl (by rw [hl, hu])) (handed_of ru) ⟨v, H1, I1.tok _, ru, q⟩
end
end L2


namespace DL
open PySem L2 PySem.Spec PyProof.Rows
/-- raise X(e), X an own error over StrideError -/
def dRaise (C : Addr) (te : DTE) (e : DX) : DTS := fun _ δ μ => te δ μ fun d μ1 => e C d μ1
theorem Hd.newN {K : PySem.W.Frag} {O : Org} {F : Zo} {H : Hp} {μ : Mu} {p : Addr} {o : HO} (h : Hd K O F H μ) (hp : H p = none) : Hd K O F (upd H p o) μ := by
  refine ⟨h.org.trans (ext_new h hp), fun a f => ?_, fun a m e => ?_⟩
  · have z : a ≠ p := fun z => h.nf hp (z ▸ f)
    rw [upd_ne z]; exact h.fr a f
  · have z : a ≠ p := fun z => by rw [z, h.free hp] at e; cases e
    exact ⟨(h.own a m e).1, (h.own a m e).2.ext (ext_new h hp) (upd_ne z)⟩
theorem ds_raise {O : Org} {X : Cx} {nn : Str} {C fI : Addr} {a : Expr} {te : DTE} {e : DX} {p pos pos2 : Pos} {k : Nat} (hc : X.calm = true) (T : PySem.ErrX.ErrTxt X.K X.mg nn C fI) (hr : Room k X.A) (tk : L2N.Takes X (fun cls d _ H2 => LX X.K O e cls d H2)) (ha : DE O X a te) (hg : Gl X nn := by rfl) (hdb : (nn == ("__debug__" : Str)) = false := by decide)
    (he : starEach (a :: []) X.env = (false, eval a X.env) :: starEach [] X.env := by rfl) (hpl : (backTo pos (starEach [] X.env)).any (·.1) = false := by rfl) :
    DSt O X (.Raise (some (.Call (.Name nn p) [a] [] pos)) none pos2) (dRaise C te e) :=
  ps_weak (ps_raiseErr hc T hr tk (pa_cons ha pa_nil he) hg hdb he hpl) fun Z σ H ⟨F, δ, μ, E, hd, rs, t, L⟩ =>
    ⟨F, δ, μ, _, hd, rs, t, fun F1 H1 μ1 d v e1 hd1 r1 t1 => ⟨v, rfl, fun b hb => ⟨C, b, v, d, addF F1 b, μ1, rfl, rfl, upd_same, hd1.newF hb, r1.ext (ext_newF hd1 hb), .inr rfl, t1⟩⟩⟩
end DL
namespace DL
open PySem L2
def rGcdD : DC2 := fun ds μ q => match ds with | [.int a, .int b] => q (.int ((Nat.gcd a.natAbs b.natAbs : Nat) : Int)) μ | _ => False
theorem cd_gcd {K : PySem.W.Frag} : CallD K rGcd rGcdD := by
  intro O F H μ ds vs q Q hd rs t k
  unfold rGcdD at t
  split at t
  · rename_i i j
    obtain ⟨v, w, rfl, h1, h2⟩ := repL2 rs
    obtain rfl : v = .int i := h1
    obtain rfl : w = .int j := h2
    exact ⟨i, j, rfl, k F H μ _ _ (Ext.refl F H) hd rep_int t⟩
  · exact t.elim
end DL
namespace DL
open PySem L2 PySem.Spec PyProof.Rows
theorem exm_self {K : PySem.W.Frag} {S : Addr} (h1 : PySem.W.subIn K (.ref S) (.type "BaseException") = some true) (h2 : PySem.W.isClsIn K S = true) (h3 : PySem.W.typeIn K (.ref S) = some (.type "type")) (h4 : PySem.W.subIn K (.ref S) (.ref S) = some true) :
    PySem.W.exmOne K (.ref S) (.ref S) = some true := by
  have e1 : (PySem.W.subIn K (.ref S) (.type "BaseException") == some true) = true := by rw [h1] <;> rfl
  have e2 : ((PySem.W.clsIn K S).isSome && PySem.W.typeIn K (.ref S) == some (.type "type")) = true := by
    have h2' : (PySem.W.clsIn K S).isSome = true := h2
    rw [h2', h3] <;> rfl
  show (if (PySem.W.subIn K (.ref S) (.type "BaseException") == some true) = true then (if ((PySem.W.clsIn K S).isSome && PySem.W.typeIn K (.ref S) == some (.type "type")) = true then PySem.W.subIn K (.ref S) (.ref S) else none) else none) = some true
  rw [if_pos e1, if_pos e2]
  exact h4
end DL
namespace DL
open PySem L2
theorem atI_lt {α : Type} {l : List α} {k : Nat} {x : α} (h : l[k]? = some x) : atI l ((k : Nat) : Int) = some x := atI_nat h
theorem ix0 {α : Type} (a : α) (l : List α) : atI (a :: l) 0 = some a := atI_lt (k := 0) rfl
theorem ix1 {α : Type} (a b : α) (l : List α) : atI (a :: b :: l) 1 = some b := atI_lt (k := 1) rfl
theorem ix2 {α : Type} (a b c : α) (l : List α) : atI (a :: b :: c :: l) 2 = some c := atI_lt (k := 2) rfl
theorem ix3 {α : Type} (a b c d : α) (l : List α) : atI (a :: b :: c :: d :: l) 3 = some d := atI_lt (k := 3) rfl
theorem ix4 {α : Type} (a b c d e : α) (l : List α) : atI (a :: b :: c :: d :: e :: l) 4 = some e := atI_lt (k := 4) rfl
theorem ix5 {α : Type} (a b c d e f : α) (l : List α) : atI (a :: b :: c :: d :: e :: f :: l) 5 = some f := atI_lt (k := 5) rfl
theorem ix6 {α : Type} (a b c d e f g : α) (l : List α) : atI (a :: b :: c :: d :: e :: f :: g :: l) 6 = some g := atI_lt (k := 6) rfl
theorem ix7 {α : Type} (a b c d e f g h : α) (l : List α) : atI (a :: b :: c :: d :: e :: f :: g :: h :: l) 7 = some h := atI_lt (k := 7) rfl
theorem ix8 {α : Type} (a b c d e f g h i : α) (l : List α) : atI (a :: b :: c :: d :: e :: f :: g :: h :: i :: l) 8 = some i := atI_lt (k := 8) rfl
theorem ix9 {α : Type} (a b c d e f g h i j : α) (l : List α) : atI (a :: b :: c :: d :: e :: f :: g :: h :: i :: j :: l) 9 = some j := atI_lt (k := 9) rfl
theorem ix10 {α : Type} (a b c d e f g h i j k : α) (l : List α) : atI (a :: b :: c :: d :: e :: f :: g :: h :: i :: j :: k :: l) 10 = some k := atI_lt (k := 10) rfl
end DL

set_option Elab.async false
set_option linter.all false
set_option maxRecDepth 100000
/-! DR: repr of data; x in l -/
namespace DL
open PySem L2 PySem.Spec PyProof.Rows
theorem dp_list {K : PySem.W.Frag} {H : Hp} {a : Addr} {d : PyData} (h : Dp K H (.ref a) d) : (∃ ds, d = .list ds) ∨ ∃ ds, d = .tuple ds := by
  cases h with
  | lst _ _ => exact .inl ⟨_, rfl⟩
  | tup _ _ => exact .inr ⟨_, rfl⟩
theorem call_reprD {X : Cx} (hg : X.A.guards = some []) (hu : X.A.units + 66 < cLine) :
    CallR X (.builtin "repr") (fun xs H Q => ∃ a d, xs = [.ref a] ∧ Dp X.K H (.ref a) d ∧ SeqAt.shaped d = true ∧ d.showable = true ∧ d.shown.length ≤ sizeLine ∧ Q (.str d.shown) H) := by
  intro pins s σ H xs us Q I r h
  obtain ⟨a, d, rfl, hd, sd, hs, hz, q⟩ := h
  obtain ⟨u, rfl, rx⟩ := vals1 r
  cases rx
  obtain ⟨as, r1⟩ := Dp.reads I d _ _ hd rfl
  have hc := SeqAt.canLay_of_shaped sd
  have hdep : d.depth ≤ 64 := by
    unfold SeqAt.shaped at sd
    rw [Bool.and_eq_true] at sd
    exact of_decide_eq_true sd.2
  refine repr_of_reads' r1 hs (PyData.noDict_hsm (PyData.hasDict_of_canLay d hc)) hg (by omega) (fun _ _ e => e) (fun h' u tk hk => ?_) hz
  exact ⟨.str _, H, I.kept hk, ⟨_, rfl⟩, q⟩
/-- lists and tuples -/
def seqD : D → Bool
  | .tup _ => true
  | .lst _ => true
  | .rol _ => true
  | .adr _ => true
  | _ => false
def txt (d : D) : Str := (pyD d).shown
def shownOk (d : D) : Prop := (pyD d).showable = true ∧ (pyD d).shown.length ≤ sizeLine
def rReprD : DC2 := fun ds μ q => match ds with
  | [d] => seqD d = true ∧ plainD 64 (nrm μ d) = true ∧ shownOk (nrm μ d) ∧ q (.str (txt (nrm μ d))) μ
  | _ => False
section
variable {O : Org} {K : PySem.W.Frag}
theorem seq_ref {F : Zo} {H : Hp} {d : D} {v : V} (h : seqD d = true) (r : Rep K F H d v) : ∃ a, v = .ref a := by
  cases d <;> first
    | (simp [seqD] at h; done)
    | (obtain ⟨a, vs, rfl, _⟩ := r; exact ⟨a, rfl⟩)
    | (exact ⟨_, r⟩)
theorem cd_repr : CallD K (fun xs H Q => ∃ a d, xs = [.ref a] ∧ Dp K H (.ref a) d ∧ SeqAt.shaped d = true ∧ d.showable = true ∧ d.shown.length ≤ sizeLine ∧ Q (.str d.shown) H) rReprD := by
  intro O F H μ ds vs q Q hd rs t k
  unfold rReprD at t
  split at t
  · rename_i d
    obtain ⟨v, rfl, h1⟩ := repL1 rs
    obtain ⟨t1, t2, ⟨t3, t4⟩, t5⟩ := t
    obtain ⟨a, rfl⟩ := seq_ref t1 h1
    exact ⟨a, _, rfl, nrm_rep hd t2 h1, shaped_of t2, t3, t4, k F H μ (.str (txt (nrm μ d))) _ (Ext.refl F H) hd rfl t5⟩
  · exact t.elim
/-- x in l, of data -/
def ng : Bool → Bool → Bool
  | true, b => !b
  | false, b => b
def rInG (neg : Bool) : DR2 := fun x y μ q => match nrm μ y with
  | .lst l => plainD 64 (nrm μ x) = true ∧ plainD 64 (.lst l) = true ∧ q (.bl (ng neg (l.any fun z => eqD z (nrm μ x)))) μ
  | .rol l => plainD 64 (nrm μ x) = true ∧ plainD 64 (.lst l) = true ∧ q (.bl (ng neg (l.any fun z => eqD z (nrm μ x)))) μ
  | _ => False
theorem any_py (f : PyData → Bool) : ∀ l : List D, (pyDs l).any f = l.any fun z => f (pyD z)
  | [] => rfl
  | d :: l => by rw [pyDs, List.any_cons, List.any_cons, any_py f l]
theorem od_in : OpD K (rInD K) (rInG false) := by
  intro O F H μ x y v w q Q hd rx ry t k
  have main : ∀ l, (nrm μ y = .lst l ∨ nrm μ y = .rol l) → plainD 64 (nrm μ x) = true → plainD 64 (.lst l) = true → q (.bl (l.any fun z => eqD z (nrm μ x))) μ → rInD K v w H Q := fun l hy p1 p2 t => by
    have e : pyD (nrm μ y) = .list (pyDs l) := by rcases hy with h | h <;> rw [h] <;> rfl
    have py : plainD 64 (nrm μ y) = true := by rcases hy with h | h <;> rw [h] <;> exact p2
    have hl := nrm_rep hd py ry
    rw [e] at hl
    have hs := shaped_of py
    rw [e] at hs
    refine ⟨_, _, nrm_rep hd p1 rx, hl, shaped_of p1, hs, k F H μ (.bl (l.any fun z => eqD z (nrm μ x))) _ (Ext.refl F H) hd ?_ t⟩
    rw [any_py]; rfl
  unfold rInG at t
  split at t
  · rename_i l hl
    exact main l (.inl hl) t.1 t.2.1 t.2.2
  · rename_i l hl
    exact main l (.inr hl) t.1 t.2.1 t.2.2
  · exact t.elim
theorem od_notIn : OpD K (rNotInD K) (rInG true) := by
  intro O F H μ x y v w q Q hd rx ry t k
  have main : ∀ l, (nrm μ y = .lst l ∨ nrm μ y = .rol l) → plainD 64 (nrm μ x) = true → plainD 64 (.lst l) = true → q (.bl (!l.any fun z => eqD z (nrm μ x))) μ → rNotInD K v w H Q := fun l hy p1 p2 t => by
    have e : pyD (nrm μ y) = .list (pyDs l) := by rcases hy with h | h <;> rw [h] <;> rfl
    have py : plainD 64 (nrm μ y) = true := by rcases hy with h | h <;> rw [h] <;> exact p2
    have hl := nrm_rep hd py ry
    rw [e] at hl
    have hs := shaped_of py
    rw [e] at hs
    refine ⟨_, _, nrm_rep hd p1 rx, hl, shaped_of p1, hs, k F H μ (.bl (!l.any fun z => eqD z (nrm μ x))) _ (Ext.refl F H) hd ?_ t⟩
    rw [any_py]; rfl
  unfold rInG at t
  split at t
  · rename_i l hl
    exact main l (.inl hl) t.1 t.2.1 t.2.2
  · rename_i l hl
    exact main l (.inr hl) t.1 t.2.1 t.2.2
  · exact t.elim
end
end DL

set_option Elab.async false
set_option linter.all false
set_option maxRecDepth 100000
/-! DK: a def called with keywords, over data -/
namespace DL
open PySem L2
def pick {α : Type} (perm : List Nat) (xs : List α) : List α := perm.filterMap fun i => xs[i]?
theorem pick_cons {α : Type} (i : Nat) (perm : List Nat) (xs : List α) : pick (i :: perm) xs = (match xs[i]? with | some x => x :: pick perm xs | none => pick perm xs) := by
  unfold pick
  rw [List.filterMap_cons]
  cases xs[i]? <;> rfl
theorem vals_pick {zs : List V} {ws : List Value} (r : Vals zs ws) : ∀ perm : List Nat, Vals (pick perm zs) (pick perm ws)
  | [] => .nil
  | i :: perm => by
    rw [pick_cons, pick_cons]
    cases e : zs[i]? with
    | none => rw [r.none_of e]; exact vals_pick r perm
    | some x =>
      obtain ⟨u, h1, h2⟩ := r.get e
      rw [h1]
      exact .cons h2 (vals_pick r perm)
theorem repL_pick {K : PySem.W.Frag} {F : Zo} {H : Hp} {zs : List D} {ws : List V} (r : RepL K F H zs ws) : ∀ perm : List Nat, RepL K F H (pick perm zs) (pick perm ws)
  | [] => RepL.nil
  | i :: perm => by
    rw [pick_cons, pick_cons]
    cases e : zs[i]? with
    | none =>
      have : ws[i]? = none := List.getElem?_eq_none_iff.mpr (by rw [← r.length]; exact List.getElem?_eq_none_iff.mp e)
      rw [this]; exact repL_pick r perm
    | some x =>
      obtain ⟨u, h1, h2⟩ := r.get e
      rw [h1]
      exact .cons h2 (repL_pick r perm)
structure KwB (fd : FuncData) (ps ks : List Str) (n : Nat) (perm : List Nat) : Prop where
  to : ∀ (s : Shared) (us ws : List Value), us.length = n → ws.length = ks.length → BindsTo s fd ⟨us, ks.zip ws⟩ (ps.zip (us ++ pick perm ws))
structure FdK (P : Program) (w : World) (K : PySem.W.Frag) (mg : Str → Option Value) (base : Heap) (x : Str) (k : Nat) (ps : List Str) (c : DSp) (ks : List Str) (n : Nat) (perm : List Nat) : Prop where
  ex : ∃ (f : Addr) (fd : FuncData), FnG P w K mg base k f fd ps (LSp K c) ∧ mg x = some (.ref f) ∧ PySem.W.keepIn K (.ref f) = true ∧ KwB fd ps ks n perm
abbrev DKw (O : Org) (X : Cx) (kws : List Keyword) (t : DTA) : Prop := PK X kws (LA X.K O t)
def dCallK (c : DSp) (e : DX) (n m : Nat) (perm : List Nat) (ta tk : DTA) : DTE := fun δ μ q => ta δ μ fun ds μ1 => tk δ μ1 fun zs μ2 => ds.length = n ∧ zs.length = m ∧ c (ds ++ pick perm zs) μ2 q e
section
variable {O : Org} {X : Cx} {k j n : Nat} {f : Addr} {fd : FuncData} {ps ks : List Str} {c : DSp} {e : DX} {x : Str} {p pos kpos : Pos} {a : Expr} {es : List Expr} {t tk : DTA} {ta : DTE} {kws : List Keyword} {perm : List Nat} {nm : Option Str} {sp : Sp} {E : XK}
theorem pk_weak {t t' : TA} (h : PK X kws t) (w : ∀ σ H Q, t' σ H Q → t σ H Q) : PK X kws t' := ⟨fun pos pins s σ H Q I q => h.run pos pins s σ H Q I (w σ H Q q)⟩
theorem dk_nil : DKw O X [] dNil := pk_weak pk_nil fun σ H Q ⟨F, δ, μ, q, hd, rs, t, k⟩ => k F H μ [] [] (Ext.refl F H) hd RepL.nil t
theorem dk_cons (ha : DE O X a ta) (hr : DKw O X kws t) : DKw O X (⟨nm, a, kpos⟩ :: kws) (dCons ta t) :=
  pk_weak (pk_cons ha hr) fun σ H Q ⟨F, δ, μ, q, hd, rs, t, k⟩ =>
    ⟨F, δ, μ, _, hd, rs, t, fun F1 H1 μ1 d v e1 hd1 r1 t1 => ⟨F1, δ, μ1, _, hd1, rs.ext e1, t1, fun F2 H2 μ2 ds vs e2 hd2 r2 t2 =>
      k F2 H2 μ2 _ _ (e1.trans e2) hd2 (.cons (r1.ext e2) r2) t2⟩⟩
def tCallKG (sp : Sp) (n m : Nat) (perm : List Nat) (E : XK) (t tk : TA) : TE := fun σ H Q => t σ H fun vs H1 => tk σ H1 fun zs H2 => vs.length = n ∧ zs.length = m ∧ sp (vs ++ pick perm zs) H2 Q E
theorem run_fnGK {pins : List (Addr × Obj)} {σ : L2.St} {H : Hp} {s : Shared} {Q : VK} {us ws : List Value} {vs zs : List V} (F : FnG X.prog X.w X.K X.mg X.base k f fd ps sp) (hr : Room k X.A) (hgd : X.A.guards = some []) (hb : KwB fd ps ks n perm) (hx : Passes (L2N.CX X.prog X.w) X E)
    (I : Inv X pins σ H s) (r : Vals vs us) (rz : Vals zs ws) (h1 : vs.length = n) (h2 : zs.length = ks.length) (h : sp (vs ++ pick perm zs) H Q E) : wpAny (model X.prog X.w) X.A (call (.ref f) us (ks.zip ws)) (EP X pins σ Q) X.xe s := by
  have rel := r.append (vals_pick rz perm)
  refine wpAny_call (codeAny_mono (F.run X.A X.stack s H ⟨us, ks.zip ws⟩ _ _ Q E hr hgd I.env0 (hb.to s us ws (r.length.symm.trans h1) (rz.length.symm.trans h2)) rel h) ?_)
  intro res s2 end2
  match res, end2 with
  | .error e, end2 => exact hx pins σ H s e s2 I end2
  | .ok (.ret u), end2 => exact I.after end2
theorem pe_callGK {t tk : TA} (F : FnG X.prog X.w X.K X.mg X.base k f fd ps sp) (hr : Room k X.A) (hgd : X.A.guards = some []) (hg : Gl X x) (hm : X.mg x = some (.ref f)) (hk : PySem.W.keepIn X.K (.ref f) = true) (hb : KwB fd ps ks n perm) (hx : Passes (L2N.CX X.prog X.w) X E)
    (ha : PA X (a :: es) t) (hkw : PK X kws tk) (hall : (backToKw pos (keywordEach kws X.env)).all (·.1.isSome) = true) (hks : (backToKw pos (keywordEach kws X.env)).filterMap (·.1) = ks)
    (hdb : (x == ("__debug__" : Str)) = false) (he : starEach (a :: es) X.env = (false, eval a X.env) :: starEach es X.env)
    (hpl : ((backTo pos (starEach (a :: es) X.env)).any (·.1) || (backToKw pos (keywordEach kws X.env)).any (·.1.isNone)) = false) :
    PE X (.Call (.Name x p) (a :: es) kws pos) (tCallKG sp n ks.length perm E t tk) := by
  constructor
  intro pins s σ H Q I h
  refine wpAny_Call_Name_kw (ld_glob I hg hm ?_ hdb)
  refine PySem.W.callWith_KW (h₀ := X.base) I.ok.mod.kin hk hall (thn (ha.run pos pins s σ H _ I h) ?_) hpl he
  rintro us s1 ⟨vs, H1, I1, r, q⟩
  refine thn (hkw.run pos pins s1 σ H1 _ I1 q) ?_
  rintro ws s2 ⟨zs, H2, I2, rz, l1, l2, q2⟩
  refine ⟨I2.kIn, ?_⟩
  rw [hks]
  exact run_fnGK F hr hgd hb hx I2 r rz l1 l2 q2
theorem pe_callGK0 {tk : TA} (F : FnG X.prog X.w X.K X.mg X.base k f fd ps sp) (hr : Room k X.A) (hgd : X.A.guards = some []) (hg : Gl X x) (hm : X.mg x = some (.ref f)) (hk : PySem.W.keepIn X.K (.ref f) = true) (hb : KwB fd ps ks 0 perm) (hx : Passes (L2N.CX X.prog X.w) X E)
    (hkw : PK X kws tk) (hall : (backToKw pos (keywordEach kws X.env)).all (·.1.isSome) = true) (hks : (backToKw pos (keywordEach kws X.env)).filterMap (·.1) = ks)
    (hdb : (x == ("__debug__" : Str)) = false) (hpl : ((backTo pos (starEach [] X.env)).any (·.1) || (backToKw pos (keywordEach kws X.env)).any (·.1.isNone)) = false) :
    PE X (.Call (.Name x p) [] kws pos) (tCallKG sp 0 ks.length perm E tNil tk) := by
  constructor
  intro pins s σ H Q I h
  refine wpAny_Call_Name_kw (ld_glob I hg hm ?_ hdb)
  refine PySem.W.callWith_KW0 (h₀ := X.base) I.ok.mod.kin hk hall ?_ hpl
  refine thn (hkw.run pos pins s σ H _ I h) ?_
  rintro ws s2 ⟨zs, H2, I2, rz, l1, l2, q2⟩
  refine ⟨I2.kIn, ?_⟩
  rw [hks]
  exact run_fnGK F hr hgd hb hx I2 .nil rz l1 l2 q2
theorem lcallk {K : PySem.W.Frag} {m : Nat} : ∀ σ H Q, LE K O (dCallK c e n m perm t tk) σ H Q → tCallKG (LSp K c) n m perm (LX K O e) (LA K O t) (LA K O tk) σ H Q := fun σ H Q ⟨F, δ, μ, q, hd, rs, t, k⟩ =>
  ⟨F, δ, μ, _, hd, rs, t, fun F1 H1 μ1 ds vs e1 hd1 r1 t1 => ⟨F1, δ, μ1, _, hd1, rs.ext e1, t1, fun F2 H2 μ2 zs us e2 hd2 r2 ⟨l1, l2, t2⟩ =>
    ⟨by rw [← r1.length]; exact l1, by rw [← r2.length]; exact l2, F2, μ2, ds ++ pick perm zs, q, e, hd2.here, (r1.ext e2).append (repL_pick r2 perm), t2, fun F3 H3 μ3 d v hd3 r3 q3 => by
    obtain ⟨h1, h2⟩ := hd2.back hd3
    exact k F3 H3 μ3 d v ((e1.trans e2).trans h2) h1 r3 q3, fun cls dd H' ⟨C, b, v, d, F', μ', h1, h2, h3, h4, h5, h6⟩ => ⟨C, b, v, d, F', μ', h1, h2, h3, (hd2.back h4).1, h5, h6⟩⟩⟩⟩
theorem de_callFK {m : Nat} (h : FdK X.prog X.w X.K X.mg X.base x j ps c ks n perm) (hr : Room j X.A) (hgd : X.A.guards = some []) (hx : Passes (L2N.CX X.prog X.w) X (LX X.K O e)) (hg : Gl X x) (ha : DA O X (a :: es) t) (hkw : DKw O X kws tk) (hdb : (x == ("__debug__" : Str)) = false := by decide)
    (hall : (backToKw pos (keywordEach kws X.env)).all (·.1.isSome) = true := by rfl) (hks : (backToKw pos (keywordEach kws X.env)).filterMap (·.1) = ks := by rfl)
    (he : starEach (a :: es) X.env = (false, eval a X.env) :: starEach es X.env := by rfl) (hpl : ((backTo pos (starEach (a :: es) X.env)).any (·.1) || (backToKw pos (keywordEach kws X.env)).any (·.1.isNone)) = false := by rfl) (hml : m = ks.length := by rfl) : DE O X (.Call (.Name x p) (a :: es) kws pos) (dCallK c e n m perm t tk) := by
  subst hml
  obtain ⟨f, fd, F, hm, hk, hb⟩ := h.ex
  exact pe_weak (pe_callGK F hr hgd hg hm hk hb hx ha hkw hall hks hdb he hpl) lcallk
theorem de_callFK0 {m : Nat} (h : FdK X.prog X.w X.K X.mg X.base x j ps c ks 0 perm) (hr : Room j X.A) (hgd : X.A.guards = some []) (hx : Passes (L2N.CX X.prog X.w) X (LX X.K O e)) (hg : Gl X x) (hkw : DKw O X kws tk) (hdb : (x == ("__debug__" : Str)) = false := by decide)
    (hall : (backToKw pos (keywordEach kws X.env)).all (·.1.isSome) = true := by rfl) (hks : (backToKw pos (keywordEach kws X.env)).filterMap (·.1) = ks := by rfl)
    (hpl : ((backTo pos (starEach [] X.env)).any (·.1) || (backToKw pos (keywordEach kws X.env)).any (·.1.isNone)) = false := by rfl) (hml : m = ks.length := by rfl) : DE O X (.Call (.Name x p) [] kws pos) (dCallK c e 0 m perm dNil tk) := by
  subst hml
  obtain ⟨f, fd, F, hm, hk, hb⟩ := h.ex
  refine pe_weak (pe_callGK0 F hr hgd hg hm hk hb hx hkw hall hks hdb hpl) fun σ H Q h => ?_
  have := lcallk σ H Q h
  obtain ⟨F1, δ, μ, q, hd1, rs, t1, k1⟩ := this
  exact k1 F1 H μ [] [] (Ext.refl _ _) hd1 RepL.nil t1
theorem Ctx.u65 (C : Ctx O X k e) : X.A.units + 65 < cLine := by have := C.room.un; omega
theorem Ctx.u66 (C : Ctx O X k e) : X.A.units + 66 < cLine := by have := C.room.un; omega
/-- how its arguments bind -/
theorem kwb_of {K : PySem.W.Frag} {q : Str} {st : Stmt} (F : Fun K x q st f fd)
    (h : ∀ (kV doc pm : Value) (an : Option Addr) (cdv ct : Value) (us ws : List Value), us.length = n → ws.length = ks.length → bindArgs (PySem.W.fnOf x q (defArgs st) (defBody st) (defScope st) .none kV doc pm an cdv ct) ⟨us, ks.zip ws⟩ = pure (ps.zip (us ++ pick perm ws))) : KwB fd ps ks n perm := by
  obtain ⟨oc, od, kV, doc, pm, an, cdv, ct, osl, rfl, lk, hcd⟩ := F.ex
  exact ⟨fun s us ws h1 h2 => .of_eq (h kV doc pm an cdv ct us ws h1 h2)⟩
end
end DL

set_option Elab.async false
set_option linter.all false
set_option maxRecDepth 100000
/-! DG: range with a step; list(range(..)) -/
namespace DL
open PySem L2
/-- lo, lo + c, .. -/
def stepsD (lo c : Int) (n : Nat) : List D := (List.range n).map fun i => D.int (lo + (i : Nat) * c)
def diRng3 (ta : DTA) : DTI := fun δ μ q => ta δ μ fun ds μ1 => match ds with | [.int i, .int j, .int c] => ∃ n : Nat, RgC i j c n ∧ q (stepsD i c n) (fun _ => True) μ1 | _ => False
theorem itok_steps {O : Org} {K : PySem.W.Frag} {F : Zo} {H : Hp} (lo c : Int) (n : Nat) : ItOk K O F H (stepsD lo c n) (fun _ => True) (Itc lo c n) := by
  have hl : (stepsD lo c n).length = n := by simp [stepsD]
  refine ⟨fun i F2 H2 μ2 _ _ _ h => by rw [hl] at h; exact h, fun i F2 H2 μ2 x H3 e hd _ h ⟨h1, h2⟩ => ?_, fun i F2 H2 μ2 _ _ _ h => by rw [hl] at h; exact h⟩
  subst h1 h2
  rw [hl] at h
  exact ⟨F2, .int (lo + i * c), Ext.refl _ _, hd, by simp [stepsD, h], rfl⟩
theorem repL3 {K : PySem.W.Frag} {F : Zo} {H : Hp} {a b c : D} {vs : List V} (r : RepL K F H [a, b, c] vs) : ∃ u v w, vs = [u, v, w] ∧ Rep K F H a u ∧ Rep K F H b v ∧ Rep K F H c w := by
  obtain ⟨u, r', rfl, h1, v, r2, rfl, h2, w, r3, rfl, h3, h4⟩ := r
  obtain rfl : r3 = [] := h4
  exact ⟨u, v, w, rfl, h1, h2, h3⟩
section
variable {O : Org} {X : Cx} {tg e a b c : Expr} {ta tb : DTE} {t : DTA} {pos p p2 pos2 : Pos}
theorem di_range3 (hg : Gl X "range") (hm : X.mg "range" = none) (ha : DA O X [a, b, c] t) (hs : starEach [a, b, c] X.env = (false, eval a X.env) :: starEach [b, c] X.env := by rfl) (hpl : (backTo pos (starEach [b, c] X.env)).any (·.1) = false := by rfl) :
    DI O X tg (.Call (.Name "range" p) [a, b, c] [] pos) (diRng3 t) :=
  pi_weak (pi_range3 hg hm ha hs hpl) fun σ H R ⟨F, δ, μ, q, hd, rs, t, k⟩ => ⟨F, δ, μ, _, hd, rs, t, fun F1 H1 μ1 ds vs e1 hd1 r1 t1 => by
    match ds, t1 with
    | [.int i, .int j, .int c], ⟨n, h, t1⟩ =>
      obtain ⟨u, v, w, rfl, h1, h2, h3⟩ := repL3 r1
      obtain rfl : u = .int i := h1
      obtain rfl : v = .int j := h2
      obtain rfl : w = .int c := h3
      exact ⟨i, j, c, n, rfl, h, k F1 H1 μ1 _ _ _ e1 hd1 (itok_steps i c n) t1⟩⟩
/-- list(range(a, b)) -/
def dLstRg (ta tb : DTE) : DTE := fun δ μ q => ta δ μ fun x μ1 => tb δ μ1 fun y μ2 => match x, y with
  | .int i, .int j => RgOk i j ∧ q (.lst (intsD i (j - i).toNat)) μ2
  | _, _ => False
def dLstRgM (ta tb : DTE) : DTE := fun δ μ q => ta δ μ fun x μ1 => tb δ μ1 fun y μ2 => match x, y with
  | .int i, .int j => RgOk i j ∧ ∀ p, μ2 p = none → q (.adr p) (updM μ2 p (.lst (intsD i (j - i).toNat)))
  | _, _ => False
theorem rg_rep {K : PySem.W.Frag} {F : Zo} {H : Hp} (i j : Int) : RepL K F H (intsD i (j - i).toNat) (rgV i j) := by
  have := RepL.of_ints (K := K) (F := F) (H := H) ((List.range (j - i).toNat).map fun k => i + (k : Nat))
  rw [List.map_map, List.map_map] at this
  exact this
theorem de_listRg2 (hc : X.calm = true) (hl : Gl X "list") (hml : X.mg "list" = none) (hg : Gl X "range") (hm : X.mg "range" = none) (ha : DE O X a ta) (hb : DE O X b tb)
    (na : starEach [a, b] X.env = (false, eval a X.env) :: starEach [b] X.env := by rfl) (nb : starEach [b] X.env = (false, eval b X.env) :: starEach [] X.env := by rfl) (hp : (backTo pos2 (starEach [b] X.env)).any (·.1) = false := by rfl)
    (ne : starEach [Expr.Call (.Name "range" p2) [a, b] [] pos2] X.env = (false, eval (.Call (.Name "range" p2) [a, b] [] pos2) X.env) :: starEach [] X.env := by rfl) :
    DE O X (.Call (.Name "list" p) [.Call (.Name "range" p2) [a, b] [] pos2] [] pos) (dLstRg ta tb) :=
  pe_weak (pe_listRg hc hl hml (prg_2 hg hm ha hb na nb hp) ne) fun σ H Q ⟨F, δ, μ, q, hd, rs, t, k⟩ =>
  ⟨F, δ, μ, _, hd, rs, t, fun F1 H1 μ1 x v e1 hd1 r1 t1 => ⟨F1, δ, μ1, _, hd1, rs.ext e1, t1, fun F2 H2 μ2 y u e2 hd2 r2 t2 => by
    have r1 := r1.ext e2
    match x, y, t2, r1, r2 with
    | .int i, .int j, ⟨ok, t2⟩, r1, r2 =>
    obtain rfl : v = .int i := r1
    obtain rfl : u = .int j := r2
    exact ⟨i, j, rfl, rfl, ok, fun q hq => k _ _ μ2 (.lst _) (.ref q) ((e1.trans e2).trans (ext_newF hd2 hq)) (hd2.newF hq) ⟨q, _, rfl, ⟨.inr rfl, upd_same⟩, rg_rep i j⟩ t2⟩⟩⟩
theorem de_listRg2M (hc : X.calm = true) (hl : Gl X "list") (hml : X.mg "list" = none) (hg : Gl X "range") (hm : X.mg "range" = none) (ha : DE O X a ta) (hb : DE O X b tb)
    (na : starEach [a, b] X.env = (false, eval a X.env) :: starEach [b] X.env := by rfl) (nb : starEach [b] X.env = (false, eval b X.env) :: starEach [] X.env := by rfl) (hp : (backTo pos2 (starEach [b] X.env)).any (·.1) = false := by rfl)
    (ne : starEach [Expr.Call (.Name "range" p2) [a, b] [] pos2] X.env = (false, eval (.Call (.Name "range" p2) [a, b] [] pos2) X.env) :: starEach [] X.env := by rfl) :
    DE O X (.Call (.Name "list" p) [.Call (.Name "range" p2) [a, b] [] pos2] [] pos) (dLstRgM ta tb) :=
  pe_weak (pe_listRg hc hl hml (prg_2 hg hm ha hb na nb hp) ne) fun σ H Q ⟨F, δ, μ, q, hd, rs, t, k⟩ =>
  ⟨F, δ, μ, _, hd, rs, t, fun F1 H1 μ1 x v e1 hd1 r1 t1 => ⟨F1, δ, μ1, _, hd1, rs.ext e1, t1, fun F2 H2 μ2 y u e2 hd2 r2 t2 => by
    have r1 := r1.ext e2
    match x, y, t2, r1, r2 with
    | .int i, .int j, ⟨ok, t2⟩, r1, r2 =>
    obtain rfl : v = .int i := r1
    obtain rfl : u = .int j := r2
    exact ⟨i, j, rfl, rfl, ok, fun q hq => k _ _ _ (.adr q) (.ref q) ((e1.trans e2).trans (ext_new hd2 hq)) (hd2.newM (m := .lst (intsD i (j - i).toNat)) hq ⟨_, upd_same, rg_rep i j⟩) rfl (t2 q (hd2.free hq))⟩⟩⟩
end
end DL

set_option linter.all false
namespace DL
open PySem L2
theorem RgC_up {i j c : Int} (c0 : 0 < c) (c1 : c < 1000000) (i0 : -(2 ^ 60) ≤ i) (ij : i < j) (j1 : j < 2 ^ 60) : RgC i j c ((j - i - 1) / c + 1).toNat := by
  have q0 : 0 ≤ (j - i - 1) / c := Int.ediv_nonneg (by omega) (by omega)
  have q1 : (j - i - 1) / c ≤ j - i - 1 := Int.ediv_le_self _ (by omega)
  have e : Builtin.Range.rangeSize i j c = (j - i - 1) / c + 1 := by
    unfold Builtin.Range.rangeSize
    rw [if_pos (show c > 0 from c0), if_pos ij]
  refine ⟨by omega, by omega, ?_, by rw [e]; omega⟩
  unfold Builtin.Range.small
  rw [e]
  simp only [Builtin.Range.rangeFitsLong, Bool.and_eq_true, Bool.or_eq_true, decide_eq_true_eq, beq_iff_eq, show c > 0 from c0, if_true]
  omega
end DL

set_option Elab.async false
set_option linter.all false
set_option maxRecDepth 100000
/-! DO: objects with fields, over data -/
namespace DL
open PySem L2
section
variable {K : PySem.W.Frag} {F : Zo} {H : Hp}
theorem zip_rep {f : Str} : ∀ {ns : List Str} {l : List D} {vs : List V} {d : D}, RepL K F H l vs → (ns.zip l).lookup f = some d → ∃ v, (ns.zip vs).lookup f = some v ∧ Rep K F H d v
  | [], l, vs, d, r, e => by simp at e
  | n :: ns, [], vs, d, r, e => by simp at e
  | n :: ns, x :: l, vs, d, r, e => by
    obtain ⟨v, r', rfl, h1, h2⟩ := r
    rw [List.zip_cons_cons, List.lookup_cons] at e ⊢
    cases z : (f == n) with
    | true =>
      rw [z] at e
      obtain rfl := Option.some.inj e
      exact ⟨v, rfl, h1⟩
    | false =>
      rw [z] at e
      exact zip_rep h2 e
/-- a field: its place among the names -/
def putN (f : Str) (y : D) : List Str → List D → List Str × List D
  | [], _ => ([f], [y])
  | n :: ns, [] => ([f], [y])
  | n :: ns, x :: l => if n = f then (n :: ns, y :: l) else (n :: (putN f y ns l).1, x :: (putN f y ns l).2)
theorem putN_rep {f : Str} {y : D} {u : V} (hu : Rep K F H y u) : ∀ {ns : List Str} {l : List D} {vs : List V}, ns.length = vs.length → RepL K F H l vs →
    ∃ vs', putF f u (ns.zip vs) = (putN f y ns l).1.zip vs' ∧ (putN f y ns l).1.length = vs'.length ∧ RepL K F H (putN f y ns l).2 vs'
  | [], l, [], _, r => ⟨[u], rfl, rfl, .cons hu RepL.nil⟩
  | [], _, _ :: _, h, _ => by simp at h
  | _ :: _, _, [], h, _ => by simp at h
  | n :: ns, [], v :: vs, _, r => by have : v :: vs = [] := r; cases this
  | n :: ns, x :: l, v :: vs, h, r => by
    obtain ⟨v', r', e, h1, h2⟩ := r
    cases e
    have hl : ns.length = vs.length := by simpa using h
    by_cases z : n = f
    · have e1 : putF f u ((n :: ns).zip (v :: vs)) = (n, u) :: ns.zip vs := by
        rw [List.zip_cons_cons]; exact if_pos z
      have e2 : putN f y (n :: ns) (x :: l) = (n :: ns, y :: l) := if_pos z
      rw [e1, e2]
      exact ⟨u :: vs, rfl, by simpa using h, .cons hu h2⟩
    · obtain ⟨vs', p1, p2, p3⟩ := putN_rep hu hl h2
      have e1 : putF f u ((n :: ns).zip (v :: vs)) = (n, v) :: putF f u (ns.zip vs) := by
        rw [List.zip_cons_cons]; exact if_neg z
      have e2 : putN f y (n :: ns) (x :: l) = (n :: (putN f y ns l).1, x :: (putN f y ns l).2) := if_neg z
      rw [e1, e2, p1]
      exact ⟨v :: vs', rfl, by simp [p2], .cons h1 p3⟩
end
/-- e.f, a field of an object of C -/
def dFld (C : Addr) (f : Str) (te : DTE) : DTE := fun δ μ q => te δ μ fun x μ1 => match x with
  | .ins C' ns l => C' = C ∧ ∃ d, (ns.zip l).lookup f = some d ∧ q d μ1
  | .adr p => ∃ ns l d, μ1 p = some (.obj C ns l) ∧ (ns.zip l).lookup f = some d ∧ q d μ1
  | _ => False
/-- o.f = value -/
def dsFld (C : Addr) (f : Str) (ta tv : DTE) : DTS := fun E δ μ => tv δ μ fun y μ1 => ta δ μ1 fun x μ2 => match x with
  | .adr p => ∃ ns l, μ2 p = some (.obj C ns l) ∧ ns.length < 1000 ∧ E.nx δ (updM μ2 p (.obj C (putN f y ns l).1 (putN f y ns l).2))
  | _ => False
section
variable {O : Org} {X : Cx} {C : Addr} {f : Str} {e o value : Expr} {te ta tv : DTE} {pos pos' : Pos}
theorem de_fld (c : Cls X.K C) (n : NoAttr X.K C f) (he : DE O X e te) (hb : attributeBase e f X.env (eval e X.env) = eval e X.env := by rfl) : DE O X (.Attribute e f pos) (dFld C f te) :=
  pe_weak (pe_fld he hb) fun σ H Q ⟨F, δ, μ, q, hd, rs, t, k⟩ => ⟨F, δ, μ, _, hd, rs, t, fun F1 H1 μ1 x v e1 hd1 r1 t1 => by
    cases x <;> first | exact False.elim t1 | skip
    · rename_i p
      obtain rfl : v = .ref p := r1
      obtain ⟨ns, l, d, hm, hl, t1⟩ := t1
      obtain ⟨_, dx, vs, h1, h2, h3⟩ := hd1.own p _ hm
      obtain ⟨u, h4, h5⟩ := zip_rep h3 hl
      exact ⟨p, C, dx, _, u, rfl, h1, c, n, h4, k F1 H1 μ1 d u e1 hd1 h5 t1⟩
    · rename_i C' ns l
      obtain ⟨rfl, d, hl, t1⟩ := t1
      obtain ⟨a, dx, vs, rfl, ⟨_, h1⟩, h2, h3⟩ := r1
      obtain ⟨u, h4, h5⟩ := zip_rep h3 hl
      exact ⟨a, _, dx, _, u, rfl, h1, c, n, h4, k F1 H1 μ1 d u e1 hd1 h5 t1⟩⟩
theorem ds_fld (c : Cls X.K C) (n : NoAttr X.K C f) (ha : DE O X o ta) (hv : DE O X value tv) (hs : swapsWith value (some (.Attribute o f pos')) pos.line X.env = pure false := by rfl) : DSt O X (.Assign [.Attribute o f pos'] value pos) (dsFld C f ta tv) :=
  ps_weak (ps_fld ha hv hs) fun Z σ H ⟨F, δ, μ, E, hd, rs, t, L⟩ => ⟨F, δ, μ, _, hd, rs, t, fun F1 H1 μ1 y u e1 hd1 r1 t1 => ⟨F1, δ, μ1, _, hd1, rs.ext e1, t1, fun F2 H2 μ2 x v e2 hd2 r2 t2 => by
    cases x <;> first | exact False.elim t2 | skip
    rename_i p
    obtain rfl : v = .ref p := r2
    obtain ⟨ns, l, hm, hl, t2⟩ := t2
    obtain ⟨_, dx, vs, h1, h2, h3⟩ := hd2.own p _ hm
    have ex := ext_set (o := HO.ins C dx (putF f u (ns.zip vs))) hd2 hm
    obtain ⟨vs', p1, p2, p3⟩ := putN_rep (f := f) ((r1.ext e2).ext ex) h2 (h3.ext ex)
    refine ⟨p, C, dx, _, rfl, h1, c, n, by rw [List.length_zip]; omega, ?_⟩
    exact L.nx F2 _ _ δ σ ((e1.trans e2).trans ex) (hd2.set (m' := .obj C (putN f y ns l).1 (putN f y ns l).2) hm ⟨dx, vs', by rw [upd_same, p1], p2, p3⟩) (((rs.ext e1).ext e2).ext ex) t2⟩⟩
end
end DL

namespace DL
open PySem L2
/-! C(..): an object is made -/
theorem make_guards {A : Around} {C : Addr} {us : List Value} {kw : List (Str × Value)} (h : A.guards = some []) : (A.under (.builtin "type.__call__" ⟨.ref C :: us, kw⟩)).guards = some [] := by
  have e : (Code.builtin "type.__call__" ⟨.ref C :: us, kw⟩).isGuard = false := by
    show guardIds.contains "type.__call__" = false
    decide +kernel
  simp [Around.under, Code.guards, e, pushGuards, h]
theorem Hd.lay {K : PySem.W.Frag} {O : Org} {F : Zo} {H : Hp} {μ : Mu} {p : Addr} {o : HO} (h : Hd K O F H μ) (hp : H p = none) : Hd K O F (upd H p o) μ := by
  refine ⟨h.org.trans (ext_new h hp), fun a f => ?_, fun a m e => ?_⟩
  · have z : a ≠ p := fun z => h.nf hp (z ▸ f)
    rw [upd_ne z]; exact h.fr a f
  · have z : a ≠ p := fun z => by rw [z, h.free hp] at e; cases e
    exact ⟨(h.own a m e).1, (h.own a m e).2.ext (ext_new h hp) (upd_ne z)⟩
def dMake (C : Addr) (c : DSp) (e : DX) (dds : List D) (t : DTA) : DTE := fun δ μ q => t δ μ fun ds μ1 => ∀ p, μ1 p = none → c (.adr p :: (ds ++ dds)) (updM μ1 p (.obj C [] [])) (fun d μ2 => d = .non ∧ q (.adr p) μ2) e
section
variable {O : Org} {X : Cx} {k : Nat} {f C : Addr} {fd : FuncData} {ps : List Str} {sp : Sp} {dvs : List V} {ds : List Value} {E : XK} {x : Str} {p pos : Pos} {a : Expr} {es : List Expr} {t : DTA} {c : DSp} {e : DX} {dds : List D}
theorem run_makeG {pins : List (Addr × Obj)} {σ : L2.St} {H : Hp} {s : Shared} {Q : VK} {us : List Value} {vs : List V} (M : Mk X.K C f) (F : FnG X.prog X.w X.K X.mg X.base k f fd ps sp) (hr : Room (k + 1) X.A) (hgd : X.A.guards = some []) (hb : Binds X.K fd ps ds) (hd : Vals dvs ds)
    (hx : Passes (L2N.CX X.prog X.w) X E) (I : Inv X pins σ H s) (r : Vals vs us)
    (h : ∀ x dx, H x = none → H dx = none → dx ≠ x → sp (.ref x :: (vs ++ dvs)) (upd (upd H dx (.own x)) x (.ins C dx [])) (fun v H2 => v = .non ∧ Q (.ref x) H2) E) :
    wpAny (model X.prog X.w) X.A (call (.ref C) us) (EP X pins σ Q) X.xe s := by
  have hq := h (s.heap.objs.size + 1) s.heap.objs.size (I.hok.fresh (Nat.le_succ _)) (I.hok.fresh (Nat.le_refl _)) (Nat.ne_of_lt (Nat.lt_succ_self _))
  have I2 := Inv.made (C := C) I
  have r2 : Vals (V.ref (s.heap.objs.size + 1) :: (vs ++ dvs)) (Value.ref (s.heap.objs.size + 1) :: (us ++ ds)) := .cons rfl (r.append hd)
  have hl : (Value.ref (s.heap.objs.size + 1) :: us ++ ds).length = ps.length := r2.length.symm.trans (F.len _ _ _ _ hq)
  refine wpAny_call (make_map (f := f) I.kIn M.makes M.init (beq_iff_eq.mp M.fn) (codeAny_mono (F.run _ X.stack _ _ ⟨Value.ref (s.heap.objs.size + 1) :: us, []⟩ _ _ _ E (hr.make C us []) (make_guards hgd)
    (I2.env0.make C us []) (hb _ (Value.ref (s.heap.objs.size + 1) :: us) I2.kIn hl) r2 hq) ?_))
  intro res s2 end2
  match res, end2 with
  | .error e, end2 => exact hx pins σ _ _ e s2 I2 end2
  | .ok (.ret u), end2 =>
    obtain ⟨v, H', I3, rv, ev, q3⟩ := I2.after end2
    subst ev
    exact ⟨rv, ⟨V.ref (s.heap.objs.size + 1), H', I3, rfl, q3⟩⟩
theorem pe_makeG {t : TA} (M : Mk X.K C f) (F : FnG X.prog X.w X.K X.mg X.base k f fd ps sp) (hr : Room (k + 1) X.A) (hgd : X.A.guards = some []) (hg : Gl X x) (hm : X.mg x = some (.ref C)) (hb : Binds X.K fd ps ds) (hd : Vals dvs ds) (hx : Passes (L2N.CX X.prog X.w) X E)
    (ha : PA X (a :: es) t) (hdb : (x == ("__debug__" : Str)) = false) (he : starEach (a :: es) X.env = (false, eval a X.env) :: starEach es X.env) (hpl : (backTo pos (starEach es X.env)).any (·.1) = false) :
    PE X (.Call (.Name x p) (a :: es) [] pos) (tMake C sp dvs E t) := by
  constructor
  intro pins s σ H Q I h
  refine wpAny_Call_Name_kw (ld_glob I hg hm ?_ hdb)
  refine PySem.W.callWith_K (h₀ := X.base) I.ok.mod.kin M.kp (thn (ha.run pos pins s σ H _ I h) ?_) he hpl
  rintro us s1 ⟨vs, H1, I1, r, q⟩
  exact ⟨I1.kIn, run_makeG M F hr hgd hb hd hx I1 r q⟩
theorem lmake {K : PySem.W.Frag} (hdd : ∀ F H, RepL K F H dds dvs) : ∀ σ H Q, LE K O (dMake C c e dds t) σ H Q → tMake C (LSp K c) dvs (LX K O e) (LA K O t) σ H Q := fun σ H Q ⟨F, δ, μ, q, hd, rs, t, k⟩ =>
  ⟨F, δ, μ, _, hd, rs, t, fun F1 H1 μ1 ds vs e1 hd1 r1 t1 x dx hx hdx hne => by
    have hx' : upd H1 dx (.own x) x = none := by rw [upd_ne (Ne.symm hne)]; exact hx
    have h2 := hd1.lay (o := .own x) hdx
    have x2 := ext_new (o := HO.own x) hd1 hdx
    have h3 := h2.newM (o := .ins C dx []) (m := .obj C [] []) hx' ⟨dx, [], upd_same, rfl, RepL.nil⟩
    have x3 := ext_new (o := HO.ins C dx []) h2 hx'
    refine ⟨F1, _, .adr x :: (ds ++ dds), _, e, h3.here, .cons rfl (((r1.ext x2).ext x3).append (hdd F1 _)), t1 x (hd1.free hx), fun F4 H4 μ4 d v hd4 r4 q4 => ?_, fun cls dd H' ⟨C, b, v, d, F', μ', h1, h2', h3', h4, h5, h6⟩ => ⟨C, b, v, d, F', μ', h1, h2', h3', (h3.back h4).1, h5, h6⟩⟩
    obtain ⟨rfl, q4⟩ := q4
    obtain rfl : v = .non := r4
    obtain ⟨p1, p2⟩ := h3.back hd4
    exact ⟨rfl, k F4 H4 μ4 (.adr x) (.ref x) (((e1.trans x2).trans x3).trans p2) p1 rfl q4⟩⟩
theorem de_make (M : Mk X.K C f) (F : FnG X.prog X.w X.K X.mg X.base k f fd ps (LSp X.K c)) (hr : Room (k + 1) X.A) (hgd : X.A.guards = some []) (hg : Gl X x) (hm : X.mg x = some (.ref C)) (hb : Binds X.K fd ps ds) (hd : Vals dvs ds) (hdd : ∀ F H, RepL X.K F H dds dvs) (hx : Passes (L2N.CX X.prog X.w) X (LX X.K O e))
    (ha : DA O X (a :: es) t) (hdb : (x == ("__debug__" : Str)) = false := by decide) (he : starEach (a :: es) X.env = (false, eval a X.env) :: starEach es X.env := by rfl) (hpl : (backTo pos (starEach es X.env)).any (·.1) = false := by rfl) :
    DE O X (.Call (.Name x p) (a :: es) [] pos) (dMake C c e dds t) := pe_weak (pe_makeG M F hr hgd hg hm hb hd hx ha hdb he hpl) (lmake hdd)
end
end DL

namespace DL
open PySem L2
/-! properties and methods -/
/-- an object of C, whatever it holds -/
def isObj (C : Addr) (μ : Mu) : D → Prop
  | .ins C' _ _ => C' = C
  | .adr p => ∃ ns l, μ p = some (.obj C ns l)
  | _ => False
/-- .. that has no field m -/
def noFld (C : Addr) (m : Str) (μ : Mu) : D → Prop
  | .ins C' ns _ => C' = C ∧ m ∉ ns
  | .adr p => ∃ ns l, μ p = some (.obj C ns l) ∧ m ∉ ns
  | _ => False
theorem zip_none {m : Str} : ∀ {ns : List Str} {vs : List V}, m ∉ ns → (ns.zip vs).lookup m = none
  | [], _, _ => by simp
  | _ :: _, [], _ => by simp
  | n :: ns, v :: vs, h => by
    rw [List.zip_cons_cons, List.lookup_cons]
    have : (m == n) = false := beq_eq_false_iff_ne.mpr fun z => h (z ▸ List.mem_cons_self)
    rw [this]
    exact zip_none fun z => h (List.mem_cons_of_mem _ z)
def dProp (C : Addr) (c : DSp) (te : DTE) : DTE := fun δ μ q => te δ μ fun x μ1 => isObj C μ1 x ∧ c [x] μ1 q eN
def dMeth (C : Addr) (m : Str) (c : DSp) (e : DX) (te : DTE) (t : DTA) : DTE := fun δ μ q => te δ μ fun x μ1 => noFld C m μ1 x ∧ t δ μ1 fun ds μ2 => c (x :: ds) μ2 q e
section
variable {O : Org} {X : Cx} {k : Nat} {f C pr g : Addr} {fd : FuncData} {ps : List Str} {sp : Sp} {E : XK} {x m fl : Str} {p pos apos : Pos} {a o : Expr} {es : List Expr} {te : DTE} {t : DTA} {c : DSp} {e : DX} {K : PySem.W.Frag}
theorem obj_at {F : Zo} {H : Hp} {μ : Mu} {d : D} {v : V} (hd : Hd K O F H μ) (r : Rep K F H d v) (h : isObj C μ d) : ∃ a dx fs, v = .ref a ∧ H a = some (.ins C dx fs) := by
  cases d <;> first | exact False.elim h | skip
  · obtain ⟨ns, l, hm⟩ := h
    obtain ⟨_, dx, vs, h1, _⟩ := hd.own _ _ hm
    exact ⟨_, dx, _, r, h1⟩
  · obtain rfl := h
    obtain ⟨a, dx, vs, rfl, ⟨_, h1⟩, _⟩ := r
    exact ⟨a, dx, _, rfl, h1⟩
theorem obj_no {F : Zo} {H : Hp} {μ : Mu} {d : D} {v : V} (hd : Hd K O F H μ) (r : Rep K F H d v) (h : noFld C m μ d) : ∃ a dx fs, v = .ref a ∧ H a = some (.ins C dx fs) ∧ fs.lookup m = none := by
  cases d <;> first | exact False.elim h | skip
  · obtain ⟨ns, l, hm, hn⟩ := h
    obtain ⟨_, dx, vs, h1, _⟩ := hd.own _ _ hm
    exact ⟨_, dx, _, r, h1, zip_none hn⟩
  · obtain ⟨rfl, hn⟩ := h
    obtain ⟨a, dx, vs, rfl, ⟨_, h1⟩, _⟩ := r
    exact ⟨a, dx, _, rfl, h1, zip_none hn⟩
theorem getprop_okG {a dx : Addr} {fs : List (Str × V)} {pins : List (Addr × Obj)} {σ : L2.St} {H : Hp} {s : Shared} {Q : VK} {b : Bool} {E' : Value → Shared → Prop} (I : Inv X pins σ H s) (ea : H a = some (.ins C dx fs)) (cc : Cls X.K C) (hp : PropOf X.K C fl pr g)
    (F : FnG X.prog X.w X.K X.mg X.base k g fd ps sp) (hr : Room (k + 1) X.A) (hgd : X.A.guards = some []) (hb : Binds X.K fd ps []) (hx : Passes (L2N.CX X.prog X.w) X.nox E) (h : sp [.ref a] H Q E) :
    wpAny (model X.prog X.w) X.A (getAttr (.ref a) fl b) (EP X pins σ Q) E' s := by
  obtain ⟨mA, Ob, _, _, _, _⟩ := ins_get I.hok ea
  obtain ⟨od, J, _⟩ := Ob.look
  obtain ⟨rest, hrec⟩ := hp.rec_
  have I1 := I.tok (s.toks + 1)
  have hl : ([Value.ref a] ++ []).length = ps.length := F.len _ _ _ _ h
  have hc : (PySem.W.clsIn X.K C).isSome = true := by
    obtain ⟨cd, hc, _⟩ := PySem.W.any_some cc.hd
    rw [hc]
    rfl
  refine PySem.W.get_bind I.kIn J (PySem.W.plainGet_of (cc.get fl)).1 (PySem.W.findObj_data hc hp.at_ hp.get hp.tak) (PySem.W.plainGet_of (cc.get fl)).2 (wpAny_call (PySem.W.prop_get (s := { s with toks := s.toks + 1 }) I.kIn hrec ?_))
  refine codeAny_mono (F.run X.A.in1 X.stack { s with toks := s.toks + 1 } H ⟨[.ref a], []⟩ [.ref a] [.ref a] Q E hr.in1 hgd I1.env0.in1 (hb _ [.ref a] I1.kIn hl) (.cons rfl .nil) h) ?_
  intro res s2 end2
  match res, end2 with
  | .error er, end2 => exact False.elim (hx pins σ H { s with toks := s.toks + 1 } er s2 (I1.wish _) end2)
  | .ok (.ret u), end2 =>
    obtain ⟨v, H', I3, rv, q3⟩ := I1.after end2
    show wpAny _ _ (handedOut u) _ _ _
    rw [PySem.W.handedOut_of (handed_of rv)]
    exact wpAny_pure ⟨v, H', I3, rv, q3⟩
theorem pe_propG {ta : TE} (he : PE X a ta) (cc : Cls X.K C) (hp : PropOf X.K C fl pr g) (F : FnG X.prog X.w X.K X.mg X.base k g fd ps sp) (hr : Room (k + 1) X.A) (hgd : X.A.guards = some []) (hb : Binds X.K fd ps []) (hx : Passes (L2N.CX X.prog X.w) X.nox E)
    (hab : attributeBase a fl X.env (eval a X.env) = eval a X.env) : PE X (.Attribute a fl pos) (tProp C sp [] E ta) := by
  refine ⟨fun pins s σ H Q I h => ?_⟩
  refine attr_of hab (thn (he.run pins s σ H _ I h) ?_)
  rintro u s1 ⟨x, H1, I1, rx, a, dx, fs, ex, ea, q⟩
  subst ex
  obtain rfl : u = Value.ref a := rx
  exact getprop_okG I1 ea cc hp F hr hgd hb hx q
theorem de_prop (cc : Cls X.K C) (hp : PropOf X.K C fl pr g) (F : FnG X.prog X.w X.K X.mg X.base k g fd ps (LSp X.K c)) (hr : Room (k + 1) X.A) (hgd : X.A.guards = some []) (hb : Binds X.K fd ps []) (he : DE O X a te)
    (hab : attributeBase a fl X.env (eval a X.env) = eval a X.env := by rfl) : DE O X (.Attribute a fl pos) (dProp C c te) :=
  pe_weak (pe_propG (E := LX X.K O eN) he cc hp F hr hgd hb (fun pins σ H s e s' I h => (passesN (X := X.nox) (O := O) pins σ H s e s' I h)) hab) fun σ H Q ⟨F, δ, μ, q, hd, rs, t, k⟩ => ⟨F, δ, μ, _, hd, rs, t, fun F1 H1 μ1 x v e1 hd1 r1 ⟨ho, t1⟩ => by
    obtain ⟨a, dx, fs, rfl, h1⟩ := obj_at hd1 r1 ho
    refine ⟨a, dx, fs, rfl, h1, F1, μ1, [x], q, eN, hd1.here, .cons r1 RepL.nil, t1, fun F2 H2 μ2 d v hd2 r2 q2 => ?_, fun cls dd H' ⟨C, b, v, d, F', μ', h1, h2, h3, h4, h5, h5', h6⟩ => h6.elim⟩
    obtain ⟨p1, p2⟩ := hd1.back hd2
    exact k F2 H2 μ2 d v (e1.trans p2) p1 r2 q2⟩
theorem pe_methG {pl : Sem Bool} {ta : TE} {t : TA} (he : PE X o ta) (cc : Cls X.K C) (hm : Meth X.K C m f) (F : FnG X.prog X.w X.K X.mg X.base k f fd ps sp) (hr : Room k X.A) (hgd : X.A.guards = some []) (hb : Binds X.K fd ps []) (hx : Passes (L2N.CX X.prog X.w) X E) (ha : PA X (a :: es) t)
    (hst : starEach (a :: es) X.env = (false, eval a X.env) :: starEach es X.env) (hpl : (backTo pos (starEach es X.env)).any (·.1) = false)
    (ht : eval (.Call (.Attribute o m apos) (a :: es) [] pos) X.env = (do
      let ov ← eval o X.env
      standAt apos.atName
      let (f, first) ← holding [ov] (getMethod ov m pl)
      callWith pos f first (backTo pos (starEach (a :: es) X.env)) (backToKw pos (keywordEach [] X.env)))) :
    PE X (.Call (.Attribute o m apos) (a :: es) [] pos) (tMeth C m sp [] E ta t) := by
  constructor
  intro pins s σ H Q I h
  refine PySem.W.methodCall_KW (pl := pl) (thn (he.run pins s σ H _ I h) ?_) ht
  rintro u s1 ⟨x, H1, I1, rx, a0, dx, fs, ex, ea, l, q⟩
  subst ex
  obtain rfl : u = Value.ref a0 := rx
  refine getmeth_ok I1 ea cc hm l ?_
  refine PySem.W.callWith_K (first := [.ref a0]) (h₀ := X.base) I.ok.mod.kin hm.kp (thn (ha.run pos pins s1 σ H1 _ I1 q) ?_) hst hpl
  rintro us s2 ⟨vs, H2, I2, r, q2⟩
  exact ⟨I2.kIn, run_fnG (us := .ref a0 :: us) (vs := .ref a0 :: vs) (dvs := []) (ds := []) F hr hgd hb .nil hx I2 (.cons rfl r) q2⟩
theorem de_meth {pl : Sem Bool} (cc : Cls X.K C) (hm : Meth X.K C m f) (F : FnG X.prog X.w X.K X.mg X.base k f fd ps (LSp X.K c)) (hr : Room k X.A) (hgd : X.A.guards = some []) (hb : Binds X.K fd ps []) (hx : Passes (L2N.CX X.prog X.w) X (LX X.K O e)) (he : DE O X o te) (ha : DA O X (a :: es) t)
    (hst : starEach (a :: es) X.env = (false, eval a X.env) :: starEach es X.env := by rfl) (hpl : (backTo pos (starEach es X.env)).any (·.1) = false := by rfl)
    (ht : eval (.Call (.Attribute o m apos) (a :: es) [] pos) X.env = (do
      let ov ← eval o X.env
      standAt apos.atName
      let (f, first) ← holding [ov] (getMethod ov m pl)
      callWith pos f first (backTo pos (starEach (a :: es) X.env)) (backToKw pos (keywordEach [] X.env))) := by rfl) :
    DE O X (.Call (.Attribute o m apos) (a :: es) [] pos) (dMeth C m c e te t) :=
  pe_weak (pe_methG he cc hm F hr hgd hb hx ha hst hpl ht) fun σ H Q ⟨F, δ, μ, q, hd, rs, t, k⟩ => ⟨F, δ, μ, _, hd, rs, t, fun F1 H1 μ1 x v e1 hd1 r1 ⟨ho, t1⟩ => by
    obtain ⟨a0, dx, fs, rfl, h1, hn⟩ := obj_no hd1 r1 ho
    refine ⟨a0, dx, fs, rfl, h1, hn, F1, δ, μ1, _, hd1, rs.ext e1, t1, fun F2 H2 μ2 ds vs e2 hd2 r2 t2 => ?_⟩
    show LSp X.K c (V.ref a0 :: (vs ++ [])) H2 Q (LX X.K O e)
    rw [List.append_nil]
    refine ⟨F2, μ2, x :: ds, q, e, hd2.here, .cons (r1.ext e2) r2, t2, fun F3 H3 μ3 d v hd3 r3 q3 => ?_, fun cls dd H' ⟨C, b, v, d, F', μ', h1, h2, h3, h4, h5, h6⟩ => ⟨C, b, v, d, F', μ', h1, h2, h3, (hd2.back h4).1, h5, h6⟩⟩
    obtain ⟨p1, p2⟩ := hd2.back hd3
    exact k F3 H3 μ3 d v ((e1.trans e2).trans p2) p1 r3 q3⟩
end
end DL

namespace DL
open PySem L2
/-! C(..), read alone afterwards: frozen at once -/
def dMakeZ (C : Addr) (c : DSp) (e : DX) (dds : List D) (t : DTA) : DTE := fun δ μ q => t δ μ fun ds μ1 => ∀ p, μ1 p = none → c (.adr p :: (ds ++ dds)) (updM μ1 p (.obj C [] [])) (fun d μ2 => d = .non ∧ ∃ ns l, μ2 p = some (.obj C ns l) ∧ q (.ins C ns l) (delM μ2 p)) e
section
variable {O : Org} {X : Cx} {k : Nat} {f C : Addr} {fd : FuncData} {ps : List Str} {sp : Sp} {dvs : List V} {ds : List Value} {E : XK} {x : Str} {p pos : Pos} {a : Expr} {es : List Expr} {t : DTA} {c : DSp} {e : DX} {dds : List D}
theorem lmakeZ {K : PySem.W.Frag} (hdd : ∀ F H, RepL K F H dds dvs) : ∀ σ H Q, LE K O (dMakeZ C c e dds t) σ H Q → tMake C (LSp K c) dvs (LX K O e) (LA K O t) σ H Q := fun σ H Q ⟨F, δ, μ, q, hd, rs, t, k⟩ =>
  ⟨F, δ, μ, _, hd, rs, t, fun F1 H1 μ1 ds vs e1 hd1 r1 t1 x dx hx hdx hne => by
    have hx' : upd H1 dx (.own x) x = none := by rw [upd_ne (Ne.symm hne)]; exact hx
    have h2 := hd1.lay (o := .own x) hdx
    have x2 := ext_new (o := HO.own x) hd1 hdx
    have h3 := h2.newM (o := .ins C dx []) (m := .obj C [] []) hx' ⟨dx, [], upd_same, rfl, RepL.nil⟩
    have x3 := ext_new (o := HO.ins C dx []) h2 hx'
    refine ⟨F1, _, .adr x :: (ds ++ dds), _, e, h3.here, .cons rfl (((r1.ext x2).ext x3).append (hdd F1 _)), t1 x (hd1.free hx), fun F4 H4 μ4 d v hd4 r4 q4 => ?_, fun cls dd H' ⟨C, b, v, d, F', μ', h1, h2', h3', h4, h5, h6⟩ => ⟨C, b, v, d, F', μ', h1, h2', h3', (h3.back h4).1, h5, h6⟩⟩
    obtain ⟨rfl, ns, l, hm, q4⟩ := q4
    obtain rfl : v = .non := r4
    obtain ⟨p1, p2⟩ := h3.back hd4
    obtain ⟨_, dx', vs', w1, w2, w3⟩ := p1.own x _ hm
    obtain ⟨z1, z2⟩ := p1.frz hm
    exact ⟨rfl, k _ H4 _ (.ins C ns l) (.ref x) ((((e1.trans x2).trans x3).trans p2).trans z2) z1 ⟨x, dx', vs', rfl, ⟨.inr rfl, w1⟩, w2, w3.ext z2⟩ q4⟩⟩
theorem de_makeZ (M : Mk X.K C f) (F : FnG X.prog X.w X.K X.mg X.base k f fd ps (LSp X.K c)) (hr : Room (k + 1) X.A) (hgd : X.A.guards = some []) (hg : Gl X x) (hm : X.mg x = some (.ref C)) (hb : Binds X.K fd ps ds) (hd : Vals dvs ds) (hdd : ∀ F H, RepL X.K F H dds dvs) (hx : Passes (L2N.CX X.prog X.w) X (LX X.K O e))
    (ha : DA O X (a :: es) t) (hdb : (x == ("__debug__" : Str)) = false := by decide) (he : starEach (a :: es) X.env = (false, eval a X.env) :: starEach es X.env := by rfl) (hpl : (backTo pos (starEach es X.env)).any (·.1) = false := by rfl) :
    DE O X (.Call (.Name x p) (a :: es) [] pos) (dMakeZ C c e dds t) := pe_weak (pe_makeG M F hr hgd hg hm hb hd hx ha hdb he hpl) (lmakeZ hdd)
end
end DL

set_option Elab.async false
set_option linter.all false
set_option maxRecDepth 100000
/-! DT: dicts of the top, by written keys -/
namespace DL
open PySem L2
structure KdTab (K : PySem.W.Frag) (w : World) (mg : Str → Option Value) (x : Str) (d : Addr) (tab : List (Str × D)) (miss : List Str) : Prop where
  nm : mg x = some (.ref d)
  kd : ∃ es n, KDict K w d es n
  hit : ∀ z e, tab.lookup z = some e → ∃ u v, PySem.W.nsIn K d z = some (some u) ∧ RelV v u ∧ ∀ F H, Rep K F H e v
  no : ∀ z, z ∈ miss → PySem.W.nsIn K d z = some none
def rKdIn (neg : Bool) (d : Addr) (tab : List (Str × D)) (miss : List Str) : DR2 := fun x y μ q => match x, y with
  | .str z, .adr d' => d' = d ∧ ((∃ e, tab.lookup z = some e ∧ q (.bl (!neg)) μ) ∨ (z ∈ miss ∧ q (.bl neg) μ))
  | _, _ => False
def rKdIx (d : Addr) (tab : List (Str × D)) : DR2 := fun x y μ q => match x, y with
  | .adr d', .str z => d' = d ∧ ∃ e, tab.lookup z = some e ∧ q e μ
  | _, _ => False
section
variable {O : Org} {X : Cx} {x : Str} {d : Addr} {tab : List (Str × D)} {miss : List Str} {pos : Pos} {a b : Expr} {ta tb : DTE}
theorem de_glob (T : KdTab X.K X.w X.mg x d tab miss) (hg : Gl X x) (hd : (x == ("__debug__" : Str)) = false := by decide) : DE O X (.Name x pos) (dC (.adr d)) :=
  de_of_c (pe_glob (v := .ref d) hg T.nm rfl hd) fun _ _ => rfl
theorem od_kdIn (T : KdTab X.K X.w X.mg x d tab miss) : OpD X.K (fun x y H Q => ∃ (z : Str) (r : Option Value), x = .str z ∧ y = .ref d ∧ PySem.W.nsIn X.K d z = some r ∧ Q (.bl r.isSome) H) (rKdIn false d tab miss) := by
  intro O F H μ x y v w q Q hd rx ry t k
  match x, y, t, rx, ry with
  | .str z, .adr d', ⟨e0, t1⟩, rx, ry =>
  obtain rfl : v = .str z := rx
  obtain rfl : w = .ref d' := ry
  subst e0
  rcases t1 with ⟨e, h1, t2⟩ | ⟨h1, t2⟩
  · obtain ⟨u, v, h2, _, _⟩ := T.hit z e h1
    exact ⟨z, some u, rfl, rfl, h2, k F H μ (.bl true) _ (Ext.refl F H) hd rep_bl t2⟩
  · exact ⟨z, none, rfl, rfl, T.no z h1, k F H μ (.bl false) _ (Ext.refl F H) hd rep_bl t2⟩
theorem od_kdNotIn (T : KdTab X.K X.w X.mg x d tab miss) : OpD X.K (fun x y H Q => ∃ (z : Str) (r : Option Value), x = .str z ∧ y = .ref d ∧ PySem.W.nsIn X.K d z = some r ∧ Q (.bl (!r.isSome)) H) (rKdIn true d tab miss) := by
  intro O F H μ x y v w q Q hd rx ry t k
  match x, y, t, rx, ry with
  | .str z, .adr d', ⟨e0, t1⟩, rx, ry =>
  obtain rfl : v = .str z := rx
  obtain rfl : w = .ref d' := ry
  subst e0
  rcases t1 with ⟨e, h1, t2⟩ | ⟨h1, t2⟩
  · obtain ⟨u, v, h2, _, _⟩ := T.hit z e h1
    exact ⟨z, some u, rfl, rfl, h2, k F H μ (.bl false) _ (Ext.refl F H) hd rep_bl t2⟩
  · exact ⟨z, none, rfl, rfl, T.no z h1, k F H μ (.bl true) _ (Ext.refl F H) hd rep_bl t2⟩
theorem ix_kd {es : Array DictEntry} {n : Nat} (D : KDict X.K X.w d es n) : IxR X (fun x y H Q => ∃ (z : Str) (u0 : Value) (v0 : V), x = .ref d ∧ y = .str z ∧ PySem.W.nsIn X.K d z = some (some u0) ∧ RelV v0 u0 ∧ Q v0 H) := by
  intro value slice pins s σ H x y v u Q I rx ry h hs
  have ht := kd_type D I
  have h2 := h
  obtain ⟨z, u0, v0, rfl, rfl, _⟩ := h2
  obtain rfl : v = Value.ref d := rx
  exact PyProof.Rows.tail_any ht PySem.slot_dict_getitem.lookup (op_item_kd D pins s σ H (.ref d) (.str z) (.ref d) u Q I rfl ry h) hs
theorem od_kdIx (T : KdTab X.K X.w X.mg x d tab miss) : OpD X.K (fun x y H Q => ∃ (z : Str) (u0 : Value) (v0 : V), x = .ref d ∧ y = .str z ∧ PySem.W.nsIn X.K d z = some (some u0) ∧ RelV v0 u0 ∧ Q v0 H) (rKdIx d tab) := by
  intro O F H μ x y v w q Q hd rx ry t k
  match x, y, t, rx, ry with
  | .adr d', .str z, ⟨e0, e, h1, t2⟩, rx, ry =>
  obtain rfl : w = .str z := ry
  obtain rfl : v = .ref d' := rx
  subst e0
  obtain ⟨u, v, h2, h3, h4⟩ := T.hit z e h1
  exact ⟨z, u, v, rfl, rfl, h2, h3, k F H μ e v (Ext.refl F H) hd (h4 F H) t2⟩
/-- X[word] -/
theorem de_kdIx (T : KdTab X.K X.w X.mg x d tab miss) (ha : DE O X a ta) (hb : DE O X b tb) (hs : PlainIx b := by exact fun _ _ => rfl) : DE O X (.Subscript a b pos) (dOp (rKdIx d tab) ta tb) := by
  obtain ⟨es, n, D⟩ := T.kd
  exact pe_weak (pe_ix (ix_kd D) ha hb hs) (lop (od_kdIx T))
end
end DL

set_option Elab.async false
set_option linter.all false
set_option maxRecDepth 100000
/-! DB: all, any; enumerate, zip -/
namespace DL
open PySem L2
section
variable {K : PySem.W.Frag} {F : Zo} {H : Hp} {O : Org} {μ : Mu}
theorem RepL.bools : ∀ {bs : List Bool} {vs : List V}, RepL K F H (bs.map D.bl) vs → vs = bs.map V.bl
  | [], _, h => h
  | b :: bs, _, ⟨v, r, e, h1, h2⟩ => by
    subst e
    obtain rfl : v = .bl b := h1
    rw [RepL.bools h2]; rfl
def rAllD : DC2 := fun ds μ q => match ds with | [d] => ∃ bs : List Bool, lstOf μ d = some (bs.map D.bl) ∧ q (.bl (bs.all id)) μ | _ => False
def rAnyD : DC2 := fun ds μ q => match ds with | [d] => ∃ bs : List Bool, lstOf μ d = some (bs.map D.bl) ∧ q (.bl (bs.any id)) μ | _ => False
theorem cd_all : CallD K (rAll K) rAllD := by
  intro O F H μ ds vs q Q hd rs t k
  unfold rAllD at t
  split at t
  · rename_i d
    obtain ⟨v, rfl, h1⟩ := repL1 rs
    obtain ⟨ns, e, t⟩ := t
    obtain ⟨a, us, rfl, h2, h3⟩ := list_sq hd h1 e
    obtain rfl := h3.bools
    exact ⟨a, ns, rfl, h2, k F H μ _ _ (Ext.refl F H) hd rep_bl t⟩
  · exact t.elim
theorem cd_any : CallD K (rAny K) rAnyD := by
  intro O F H μ ds vs q Q hd rs t k
  unfold rAnyD at t
  split at t
  · rename_i d
    obtain ⟨v, rfl, h1⟩ := repL1 rs
    obtain ⟨ns, e, t⟩ := t
    obtain ⟨a, us, rfl, h2, h3⟩ := list_sq hd h1 e
    obtain rfl := h3.bools
    exact ⟨a, ns, rfl, h2, k F H μ _ _ (Ext.refl F H) hd rep_bl t⟩
  · exact t.elim
/-- number and item -/
def enumD : Nat → List D → List D
  | _, [] => []
  | i, x :: l => .tup [.int (i : Nat), x] :: enumD (i + 1) l
theorem enumD_len : ∀ (k : Nat) (l : List D), (enumD k l).length = l.length
  | _, [] => rfl
  | k, x :: l => by rw [enumD, List.length_cons, List.length_cons, enumD_len]
theorem enumD_get : ∀ {k i : Nat} {l : List D} {x : D}, l[i]? = some x → (enumD k l)[i]? = some (.tup [.int ((k + i : Nat) : Int), x])
  | _, _, [], _, h => by simp at h
  | k, 0, y :: l, x, h => by
    simp at h; subst h
    rfl
  | k, i + 1, y :: l, x, h => by
    rw [enumD, List.getElem?_cons_succ, enumD_get (k := k + 1) (i := i) (by simpa using h), show k + 1 + i = k + (i + 1) by omega]
theorem itok_enum {items : List D} {a : Addr} {vs : List V} (hr : RepL K F H items vs)
    (st : ∀ F2 H2 μ2, Ext F H F2 H2 → Hd K O F2 H2 μ2 → SqL K H2 a vs) : ItOk K O F H (enumD 0 items) (fun _ => True) (Ite K a) := by
  have hlen := hr.length
  refine ⟨fun i F2 H2 μ2 e hd _ h => ?_, fun i F2 H2 μ2 x H3 e hd _ h hy => ?_, fun i F2 H2 μ2 e hd _ h => ?_⟩
  · rw [enumD_len] at h
    have hl : i < vs.length := by omega
    exact ⟨vs, vs[i], st F2 H2 μ2 e hd, by simp [hl]⟩
  · rw [enumD_len] at h
    obtain ⟨T, y, rfl, hT, rfl, hx⟩ := hy
    obtain ⟨d, e1, e2⟩ := (hr.ext e).get' (hx vs (st F2 H2 μ2 e hd))
    refine ⟨_, .tup [.int (i : Nat), d], ext_newF hd hT, hd.newF hT, ?_, ⟨T, _, rfl, .inl ⟨.inr rfl, .inl upd_same⟩, .cons rfl (.cons (e2.ext (ext_newF hd hT)) RepL.nil)⟩⟩
    have := enumD_get (k := 0) e1
    rwa [Nat.zero_add] at this
  · rw [enumD_len] at h
    exact ⟨vs, st F2 H2 μ2 e hd, by omega⟩
end
/-- enumerate of a list that stands -/
def diEnum (te : DTA) : DTI := fun δ μ q => te δ μ fun ds μ1 => match ds with
  | [.lst l] => q (enumD 0 l) (fun _ => True) μ1
  | [.rol l] => q (enumD 0 l) (fun _ => True) μ1
  | _ => False
section
variable {O : Org} {X : Cx} {e : Expr} {t : DTA} {pos p tpos : Pos} {elts : List Expr} {kk : Nat}
theorem di_enum (hg : Gl X "enumerate") (hm : X.mg "enumerate" = none) (ha : DA O X [e] t) (hs : starEach [e] X.env = [(false, eval e X.env)] := by rfl) :
    DI O X (.Tuple elts kk tpos) (.Call (.Name "enumerate" p) [e] [] pos) (diEnum t) :=
  pi_weak (pi_enum hg hm ha hs) fun σ H R ⟨F, δ, μ, q, hd, rs, t, k⟩ => ⟨F, δ, μ, _, hd, rs, t, fun F1 H1 μ1 ds vs e1 hd1 r1 t1 => by
    match ds, t1, r1 with
    | [.lst l], t1, r1 =>
      obtain ⟨v, rfl, h1⟩ := repL1 r1
      obtain ⟨a, us, rfl, h2, h3⟩ := h1
      exact ⟨a, us, rfl, SqL.of h2.2, k F1 H1 μ1 _ _ _ e1 hd1 (itok_enum h3 fun F2 H2 μ2 e2 hd2 => SqL.of ((e2.hf h2.1).trans h2.2)) t1⟩
    | [.rol l], t1, r1 =>
      obtain ⟨v, rfl, h1⟩ := repL1 r1
      obtain ⟨a, us, rfl, h2, h3⟩ := h1
      exact ⟨a, us, rfl, h2.sq, k F1 H1 μ1 _ _ _ e1 hd1 (itok_enum h3 fun F2 H2 μ2 e2 hd2 => (h2.ext e2).sq) t1⟩⟩
end
end DL

set_option Elab.async false
set_option linter.all false
set_option maxRecDepth 100000
/-! DS: whole numbers of the module by name; len(set(whole numbers)); list * n -/
namespace DL
open PySem L2 PySem.Spec PyProof.Rows
theorem de_gint {O : Org} {X : Cx} {x : Str} {i : Int} {pos : Pos} (hg : Gl X x) (hm : ∃ t, X.mg x = some (.int i t)) (hd : (x == ("__debug__" : Str)) = false := by decide) : DE O X (.Name x pos) (dC (.int i)) := by
  obtain ⟨t, hm⟩ := hm
  exact de_of_c (pe_glob (v := .int i) hg hm ⟨t, rfl⟩ hd) fun _ _ => rfl
/-! ### len(set(xs)) -/
theorem firstMet_nd (val : Nat → Int) : ∀ i, (firstMet val i).Nodup
  | 0 => by rw [firstMet_zero]; exact List.nodup_nil
  | i + 1 => by
    rw [firstMet_succ]
    have ih := firstMet_nd val i
    unfold step_dedup
    split
    · exact ih
    · rename_i h
      rw [List.nodup_append]
      refine ⟨ih, by simp, fun a ha b hb => ?_⟩
      obtain rfl : b = val i := by simpa using hb
      intro e
      subst e
      exact h (List.any_eq_true.mpr ⟨_, ha, beq_self_eq_true _⟩)
theorem firstMet_mem (val : Nat → Int) (i : Nat) (k : Int) : k ∈ firstMet val i ↔ ∃ j, j < i ∧ val j = k := by
  have h := firstMet_any val i k
  rw [Bool.eq_iff_iff] at h
  simp only [List.any_eq_true, beq_iff_eq, exists_eq_right, List.mem_map, List.mem_range] at h
  exact h
theorem getD_mem {ns : List Int} {k : Int} : (∃ j, j < ns.length ∧ ns.getD j 0 = k) ↔ k ∈ ns := by
  constructor
  · rintro ⟨j, hj, rfl⟩
    rw [List.getD_eq_getElem?_getD, List.getElem?_eq_getElem hj]
    exact List.getElem_mem hj
  · intro h
    obtain ⟨j, hj, e⟩ := List.getElem_of_mem h
    exact ⟨j, hj, by rw [List.getD_eq_getElem?_getD, List.getElem?_eq_getElem hj]; exact e⟩
def tLenSetD (K : PySem.W.Frag) (ta : TE) : TE := fun σ H Q => ta σ H fun x H1 => ∃ (l : Addr) (ns : List Int), x = .ref l ∧ SqL K H1 l (ns.map V.int) ∧ ns.length ≤ 4000 ∧ ∀ out : List Int, out.Nodup → (∀ k, k ∈ out ↔ k ∈ ns) → out.length ≤ ns.length → Q (.int (out.length : Nat)) H1
theorem pe_lenSetD {X : Cx} {a : Expr} {ta : TE} {p p2 q pos : Pos} (hg : Gl X "len") (hm : X.mg "len" = none) (hg2 : Gl X "set") (hm2 : X.mg "set" = none) (ha : PE X a ta) (hc : X.calm = true)
    (na : starEach [a] X.env = (false, eval a X.env) :: starEach [] X.env) : PE X (.Call (.Name "len" p) [.Call (.Name "set" p2) [a] [] q] [] pos) (tLenSetD X.K ta) := by
  refine ⟨fun pins s σ H Q I h => ?_⟩
  refine Call_ (ld_blt I hg hm boot_len ?_)
  refine PyProof.Rows.callWith_builtin1 (PyProof.Rows.args_cons ?_ rfl) rfl rfl
  refine Call_ (ld_blt I hg2 hm2 boot_set ?_)
  refine PyProof.Rows.callWith_type1 (PyProof.Rows.args_cons (thn (ha.run pins s σ H _ I h) fun v s1 ⟨x, H1, I1, r1, q1⟩ => PyProof.Rows.args_nil ?_) na) na rfl
  obtain ⟨l, ns, rfl, hq, hl, q1⟩ := q1
  cases r1
  obtain ⟨its, r, pl, hz⟩ := I1.list hq
  have hlen : its.toArray.size = ns.length := by rw [List.size_toArray, ← r.length, List.length_map]
  refine call_set_list (I1.ok.hd hc) pl.isList (by simpa using RZ.intsAre_vals r) (by rw [hlen]; unfold scanBound; omega) fun h' tk hS hk => ?_
  refine PyProof.Rows.args_nil ?_
  rw [hlen] at hS
  have hle := firstMet_length_le (fun i => ns.getD i 0) ns.length
  obtain ⟨o, es, ep, t, ho, hex, hd, _, _, _, hf, hn⟩ := hS
  have I2 : Inv X pins σ H1 { s1 with heap := h', toks := tk } := I1.kept fun b o e => hk b o (Heap.lt_size e) e
  exact call_len_set ho hex hd hf (by rw [hn] <;> omega) ⟨.int ((firstMet (fun i => ns.getD i 0) ns.length).length : Nat), H1, I2.tok _, ⟨_, by rw [hn]⟩, q1 _ (firstMet_nd _ _) (fun k => (firstMet_mem _ _ k).trans getD_mem) hle⟩
def dLenSet (ta : DTE) : DTE := fun δ μ q => ta δ μ fun x μ1 => ∃ ns : List Int, lstOf μ1 x = some (ns.map D.int) ∧ ns.length ≤ 4000 ∧ ∀ out : List Int, out.Nodup → (∀ k, k ∈ out ↔ k ∈ ns) → out.length ≤ ns.length → q (.int (out.length : Nat)) μ1
theorem de_lenSet {O : Org} {X : Cx} {a : Expr} {ta : DTE} {p p2 p3 pos : Pos} (hg : Gl X "len") (hm : X.mg "len" = none) (hg2 : Gl X "set") (hm2 : X.mg "set" = none) (ha : DE O X a ta) (hc : X.calm = true := by rfl)
    (na : starEach [a] X.env = (false, eval a X.env) :: starEach [] X.env := by rfl) : DE O X (.Call (.Name "len" p) [.Call (.Name "set" p2) [a] [] p3] [] pos) (dLenSet ta) :=
  pe_weak (pe_lenSetD hg hm hg2 hm2 ha hc na) fun σ H Q ⟨F, δ, μ, q, hd, rs, t, k⟩ => ⟨F, δ, μ, _, hd, rs, t, fun F1 H1 μ1 x v e1 hd1 r1 ⟨ns, h1, h2, t1⟩ => by
    obtain ⟨a, vs, rfl, h3, h4⟩ := list_sq hd1 r1 h1
    obtain rfl := h4.ints
    exact ⟨a, ns, rfl, h3, h2, fun out o1 o2 o3 => k F1 H1 μ1 _ _ e1 hd1 rep_int (t1 out o1 o2 o3)⟩⟩
/-! ### xs * n -/
def rRepD : DR2 := fun x y μ q => match y with
  | .int k => ∃ l, catOf μ x = some l ∧ (-(2 ^ 63) ≤ k ∧ k < 2 ^ 63) ∧ l.length * k.toNat ≤ sizeLine ∧ q (.lst (List.replicate k.toNat l).flatten) μ
  | _ => False
theorem RepL.flat {K : PySem.W.Frag} {F : Zo} {H : Hp} {l : List D} {vs : List V} (r : RepL K F H l vs) : ∀ n : Nat, RepL K F H (List.replicate n l).flatten (List.replicate n vs).flatten
  | 0 => RepL.nil
  | n + 1 => by
    rw [List.replicate_succ, List.replicate_succ, List.flatten_cons, List.flatten_cons]
    exact r.append (RepL.flat r n)
theorem od_rep {K : PySem.W.Frag} : OpD K rRep rRepD := by
  intro O F H μ x y v w q Q hd rx ry t k
  cases y <;> first | exact False.elim t | skip
  rename_i n
  obtain rfl : w = .int n := ry
  obtain ⟨l, e1, t2, t3, t4⟩ := t
  obtain ⟨a, vs, rfl, h1, h2⟩ := list_cat hd rx e1
  have e2 := h2.length
  exact ⟨a, n, vs, rfl, rfl, h1, t2.1, t2.2, by rw [← e2]; exact t3, fun p hp => k _ _ μ (.lst _) (.ref p) (ext_newF hd hp) (hd.newF hp) ⟨p, _, rfl, ⟨.inr rfl, upd_same⟩, (h2.flat n.toNat).ext (ext_newF hd hp)⟩ t4⟩
theorem de_rep {O : Org} {X : Cx} {a b : Expr} {ta tb : DTE} {pos : Pos} (ha : DE O X a ta) (hb : DE O X b tb) : DE O X (.BinOp a .Mult b pos) (dOp rRepD ta tb) := de_op op_rep od_rep ha hb
end DL

set_option Elab.async false
set_option linter.all false
set_option maxRecDepth 100000
/-! DS2: for over a range with ends of any size -/
namespace DL
open PySem L2 PySem.Spec PyProof.Rows
theorem turn_long {P : Program} {w : World} {K : PySem.W.Frag} {tg : Expr} (it : Addr) (lo : Int) (n : Nat) : Turn P w K tg (Itr lo n) [it] it (fun i h => IsLongIter h it (lo + (i : Nat) * 1) ((n : Int) - (i : Nat)) 1) where
  mem := by simp
  obj := fun i h st b hb => by
    have e : b = it := by simpa using hb
    subst e
    exact ⟨_, st, fun v z => by
      have z' : Data.fields _ = Data.cell v := z
      cases z'⟩
  keep := fun i h h' st k => k it (by simp) _ st
  item := by
    intro X hP hw hK hc i pins s σ H E I hf st hg
    subst hP hw hK
    obtain ⟨f0, f1, f2, f3, f4, f5⟩ := hf it (by simp)
    have W := Walks.longrange (prog := X.prog) (w := X.w) (I.ok.hd hc) it lo 1 n
    refine W.item i s _ _ hg st fun v h' tk hv st' kk => ?_
    obtain ⟨t, rfl⟩ := hv
    have I1 : Inv X pins σ H { s with heap := h', toks := tk } := I.turned (fun b o hb e => kk b o (by simpa using hb) e) f0 f1 f3 f4 f5
    refine ⟨_, rfl, go_of (s := { s with heap := h', toks := tk }) (n := "longrange_iterator") st' rfl rfl (by decide) ⟨.int (lo + i), H, I1, ⟨t, ?_⟩, ⟨rfl, rfl⟩, st', fun b hb => (hf b hb).1⟩⟩
    rw [Int.mul_one]
  done := by
    intro X hP hw hK hc i pins s σ H E I hf st hg
    subst hP hw hK
    obtain ⟨f0, f1, f2, f3, f4, f5⟩ := hf it (by simp)
    exact wpAny_pyNext_long_end (I.ok.hd hc) st (by have : n ≤ i := hg; omega) fun h' eb => ⟨rfl, I.turned (t' := s.toks) (fun b o hb e => eb b o hb e) f0 f1 f3 f4 f5⟩
  self := fun _ _ _ _ _ st h => wpAny_pyIter_longiter st h
theorem range_itW {X : Cx} {tg : Expr} {pins : List (Addr × Obj)} {σ : L2.St} {H : Hp} {s : Shared} {R : It → Hp → Prop} {E : Value → Shared → Prop} {lo hi : Int} {t u v : Tok} {tk : Nat} (I : Inv X pins σ H s)
    (q : R (Itr lo (hi - lo).toNat) H) : wpAny (model X.prog X.w) X.A (pyIter (.ref s.heap.objs.size)) (PIE X pins σ tg R) E { s with heap := s.heap.push { cls := .type "range", data := .fields #[.int lo t, .int hi u, .int 1 v] }, toks := tk } := by
  have I1 : Inv X pins σ H { s with heap := s.heap.push { cls := .type "range", data := .fields #[.int lo t, .int hi u, .int 1 v] }, toks := tk } := I.kept fun b o e => Heap.get?_push_of_some _ e
  have e1 : lo + ((0 : Nat) : Int) * 1 = lo := by simp
  have e2 : (((hi - lo).toNat : Nat) : Int) - ((0 : Nat) : Int) = Builtin.Range.rangeSize lo hi 1 := by rw [rangeSize_one]; split <;> omega
  have fp : ∀ b ∈ [(s.heap.push { cls := .type "range", data := .fields #[.int lo t, .int hi u, .int 1 v] }).objs.size], FpOk X pins H b := fun b hb => by
    have e : b = (s.heap.push { cls := .type "range", data := .fields #[.int lo t, .int hi u, .int 1 v] }).objs.size := by simpa using hb
    subst e
    exact I1.fpOk (Nat.le_refl _) (I1.hok.fresh (Nat.le_refl _))
  by_cases hs : Builtin.Range.small lo hi 1 = true
  · refine wpAny_pyIter_range (IsRange.new ..) hs ?_
    refine ⟨_, _, _, _, H, rfl, I1.kept (t' := tk) fun b o e => Heap.get?_push_of_some _ e, turn_range _ lo (hi - lo).toNat, ?_, fp, q⟩
    show IsRangeIter _ _ (lo + ((0 : Nat) : Int) * 1) ((((hi - lo).toNat : Nat) : Int) - ((0 : Nat) : Int)) 1
    rw [e1, e2]
    exact Heap.get?_push_size _ rfl
  · refine wpAny_pyIter_longrange (IsRange.new ..) (by simpa using hs) ?_
    refine ⟨_, _, _, _, H, rfl, I1.kept (t' := tk) fun b o e => Heap.get?_push_of_some _ e, turn_long _ lo (hi - lo).toNat, ?_, fp, q⟩
    show IsLongIter _ _ (lo + ((0 : Nat) : Int) * 1) ((((hi - lo).toNat : Nat) : Int) - ((0 : Nat) : Int)) 1
    rw [e1, e2]
    exact Heap.get?_push_size _ rfl
def iRw1 (ta : TA) : TI := fun σ H R => ta σ H fun vs H1 => ∃ j : Int, vs = [.int j] ∧ R (Itr 0 j.toNat) H1
def iRw2 (ta : TA) : TI := fun σ H R => ta σ H fun vs H1 => ∃ i j : Int, vs = [.int i, .int j] ∧ R (Itr i (j - i).toNat) H1
section
variable {O : Org} {X : Cx} {tg a b : Expr} {ta : TA} {t : DTA} {p pos : Pos}
theorem pi_rw1 (hg : Gl X "range") (hm : X.mg "range" = none) (ha : PA X [a] ta) (hs : starEach [a] X.env = [(false, eval a X.env)] := by rfl) : PI X tg (.Call (.Name "range" p) [a] [] pos) (iRw1 ta) := by
  refine ⟨fun pins s σ H R I h => ?_⟩
  refine Call_ (ld_blt I hg hm boot_range (PyProof.Rows.callWith_type1 (thn (ha.run pos pins s σ H _ I h) fun us s1 ⟨vs, H1, I1, r1, q1⟩ => ?_) hs rfl))
  obtain ⟨j, e, q⟩ := q1
  subst e
  cases r1 with
  | cons r rr =>
    cases rr
    obtain ⟨t, rfl⟩ := r
    exact call_range_1 (range_itW I1 (by simpa using q))
theorem pi_rw2 (hg : Gl X "range") (hm : X.mg "range" = none) (ha : PA X [a, b] ta) (hs : starEach [a, b] X.env = [(false, eval a X.env), (false, eval b X.env)] := by rfl) (hs2 : starEach [b] X.env = [(false, eval b X.env)] := by rfl) :
    PI X tg (.Call (.Name "range" p) [a, b] [] pos) (iRw2 ta) := by
  refine ⟨fun pins s σ H R I h => ?_⟩
  refine Call_ (ld_blt I hg hm boot_range (PyProof.Rows.callWith_type1 (thn (ha.run pos pins s σ H _ I h) fun us s1 ⟨vs, H1, I1, r1, q1⟩ => ?_) (by rw [hs, hs2]) (by rw [hs2]; rfl)))
  obtain ⟨i, j, e, q⟩ := q1
  subst e
  cases r1 with
  | cons r rr =>
    cases rr with
    | cons r' rr =>
      cases rr
      obtain ⟨t, rfl⟩ := r
      obtain ⟨t', rfl⟩ := r'
      exact call_range_2 (range_itW I1 q)
def diRw1 (ta : DTA) : DTI := fun δ μ q => ta δ μ fun ds μ1 => match ds with | [.int j] => q (intsD 0 j.toNat) (fun _ => True) μ1 | _ => False
def diRw2 (ta : DTA) : DTI := fun δ μ q => ta δ μ fun ds μ1 => match ds with | [.int i, .int j] => q (intsD i (j - i).toNat) (fun _ => True) μ1 | _ => False
theorem di_rw1 (hg : Gl X "range") (hm : X.mg "range" = none) (ha : DA O X [a] t) (hs : starEach [a] X.env = [(false, eval a X.env)] := by rfl) : DI O X tg (.Call (.Name "range" p) [a] [] pos) (diRw1 t) :=
  pi_weak (pi_rw1 hg hm ha hs) fun σ H R ⟨F, δ, μ, q, hd, rs, t, k⟩ => ⟨F, δ, μ, _, hd, rs, t, fun F1 H1 μ1 ds vs e1 hd1 r1 t1 => by
    match ds, t1 with
    | [.int j], t1 =>
      obtain ⟨v, r', rfl, h1, h2⟩ := r1
      obtain rfl : v = .int j := h1
      obtain rfl : r' = [] := h2
      exact ⟨j, rfl, k F1 H1 μ1 _ _ _ e1 hd1 (itok_range 0 j.toNat) t1⟩⟩
theorem di_rw2 (hg : Gl X "range") (hm : X.mg "range" = none) (ha : DA O X [a, b] t) (hs : starEach [a, b] X.env = [(false, eval a X.env), (false, eval b X.env)] := by rfl) (hs2 : starEach [b] X.env = [(false, eval b X.env)] := by rfl) :
    DI O X tg (.Call (.Name "range" p) [a, b] [] pos) (diRw2 t) :=
  pi_weak (pi_rw2 hg hm ha hs hs2) fun σ H R ⟨F, δ, μ, q, hd, rs, t, k⟩ => ⟨F, δ, μ, _, hd, rs, t, fun F1 H1 μ1 ds vs e1 hd1 r1 t1 => by
    match ds, t1 with
    | [.int i, .int j], t1 =>
      obtain ⟨v, w, rfl, h1, h2⟩ := repL2 r1
      obtain rfl : v = .int i := h1
      obtain rfl : w = .int j := h2
      exact ⟨i, j, rfl, k F1 H1 μ1 _ _ _ e1 hd1 (itok_range i (j - i).toNat) t1⟩⟩
end
end DL

set_option Elab.async false
set_option linter.all false
set_option maxRecDepth 100000
/-! DC: defs with defaults; classes: made, their properties and methods; len of an object -/
namespace DL
open PySem L2 PySem.Spec PyProof.Rows
/-! ### defs with defaults -/
section
variable {P : Program} {w : World} {K : PySem.W.Frag} {mg : Str → Option Value} {base : Heap}
theorem fnG_ofD {x qual : Str} {st : Stmt} {f : Addr} {fd : FuncData} {N ps : List Str} {k : Nat} {sp : Sp} {dvs : List V} {kws : List (Str × V)} (F : FunD K x qual (defArgs st) (defBody st) (defScope st) dvs kws f fd) (S : FnScope N ps (defScope st)) (len : ∀ vs H Q E, sp vs H Q E → vs.length = ps.length)
    (body : ∀ (cdv : Value) (A : Around) (outer : List Env) (s : Shared) (H : Hp) (vs : List V) (Q : VK) (E : XK), Room k (A.deeper (envOfC qual (defScope st) s.heap.objs.size f cdv)) → A.guards = some [] → sp vs H Q E →
      ∃ t, PSs (cxOf (L2N.CX P w) P w K mg base N qual (defScope st) f cdv A outer s H E) (defBody st) t ∧ t { nx := fun _ H' => Q .non H', rt := Q } (start N vs) H) : FnG P w K mg base (k + 1) f fd ps sp := by
  obtain ⟨oc, od, dV, kV, doc, pm, an, cdv, ct, osl, rfl, lk, hcd, _, _⟩ := F.ex
  refine ⟨len, ?_⟩
  intro A outer s H args us vs Q E room gd e0 bnd rel hsp
  have inK : K.In s.heap := e0.mod.kin.keeps fun b o z => (e0.bs b o z).1
  have nolim : s.heap.NoLimit := e0.mod.nolimit.keeps fun b o z => (e0.bs b o z).1
  refine codeAny_call_function room.depth (inK _ _ lk) rfl S.co S.gen rfl (PySem.W.codeRec_of inK hcd) (bnd _ _ _ _ ?_)
  refine wpAny_newFunctionEnv_cells S.kind ?_ ?_
  · rintro ⟨n, v⟩ hy
    rcases S.par n (List.of_mem_zip hy).1 with q | q
    · exact .inl q
    · exact .inr ⟨q, PySem.W.cellsFrom_some _ _ _ (.inl q)⟩
  intro env he s1 inC
  subst he
  refine ⟨nolim.keeps inC.toInCall.keep, codeAny_func ?_⟩
  obtain ⟨t, der, q⟩ := body cdv A outer s H vs Q E (room.deeper _) gd hsp
  have I := inv_start (CX := L2N.CX P w) (E := E) S room.hd e0 (len _ _ _ _ hsp) rel inC
  refine wpAny_mono (der.run [] s1 (start N vs) H _ I q) ?_ fun _ _ z => z
  intro fl s2 sp2
  match fl, sp2 with
  | .ret u, ⟨v, σ2, H2, J, rv, q2⟩ => exact ⟨v, H2, J.os, J.bare, J.base, J.hok, rv, q2⟩
  | .next, ⟨σ2, H2, J, q2⟩ => exact ⟨V.non, H2, J.os, J.bare, J.base, J.hok, rfl, q2⟩
  | .brk, ⟨_, _, _, q2⟩ => exact q2.elim
  | .cont, ⟨_, _, _, q2⟩ => exact q2.elim
theorem fnD_ofD {x qual : Str} {st : Stmt} {f : Addr} {fd : FuncData} {N ps : List Str} {k n : Nat} {c : DSp} {t : DX → DTS} {dvs : List V} {kws : List (Str × V)} (F : FunD K x qual (defArgs st) (defBody st) (defScope st) dvs kws f fd) (S : FnScope N ps (defScope st)) (hn : N.length = n) (len : ∀ ds μ q e, c ds μ q e → ds.length = ps.length)
    (der : ∀ (cdv : Value) (A : Around) (outer : List Env) (s : Shared) (H : Hp) (E : XK) (O : Org) (e : DX), Ctx O (cxOf (L2N.CX P w) P w K mg base N qual (defScope st) f cdv A outer s H E) k e →
      L2N.Takes (cxOf (L2N.CX P w) P w K mg base N qual (defScope st) f cdv A outer s H E) (fun cls d _ H2 => LX K O e cls d H2) →
      PassesOwn (model P w) (A.deeper (envOfC qual (defScope st) s.heap.objs.size f cdv)) (envOfC qual (defScope st) s.heap.objs.size f cdv) (cxOf (L2N.CX P w) P w K mg base N qual (defScope st) f cdv A outer s H E).xe →
      DSs O (cxOf (L2N.CX P w) P w K mg base N qual (defScope st) f cdv A outer s H E) (defBody st) (t e))
    (ok : ∀ ds μ q e, c ds μ q e → t e (endsD q) (startD n ds) μ) : FnG P w K mg base (k + 1) f fd ps (LSp K c) := by
  subst hn
  refine fnG_ofD F S (fun vs H Q E ⟨F, μ, ds, q, e, hd, r, hc, _⟩ => by rw [← r.length]; exact len _ _ _ _ hc) ?_
  rintro cdv A outer s H vs Q E room gd ⟨F0, μ, ds, q, e, hd, r, hc, hq, hE⟩
  have tk : L2N.Takes (cxOf (L2N.CX P w) P w K mg base N qual (defScope st) f cdv A outer s H E) (fun cls d _ H2 => LX K ⟨F0, H⟩ e cls d H2) := by
    have z := L2N.takes_of (X := cxOf (L2N.CX P w) P w K mg base N qual (defScope st) f cdv A outer s H E) (E := E) rfl rfl rfl rfl
    exact z.imp fun cls d _ H' h => hE cls d H' h
  have ow : PassesOwn (model P w) (A.deeper (envOfC qual (defScope st) s.heap.objs.size f cdv)) (envOfC qual (defScope st) s.heap.objs.size f cdv) (cxOf (L2N.CX P w) P w K mg base N qual (defScope st) f cdv A outer s H E).xe :=
    passes_of (X := cxOf (L2N.CX P w) P w K mg base N qual (defScope st) f cdv A outer s H E) rfl
  refine ⟨_, der cdv A outer s H E ⟨F0, H⟩ e ⟨room, gd, L2N.passes_call tk fun _ _ _ _ h => h⟩ tk ow, F0, startD N.length ds, μ, _, hd, repS_start r, ok ds μ q e hc, ⟨?_, ?_, ?_, ?_⟩⟩
  · rintro F1 H1 μ1 δ1 σ1 e1 hd1 rs1 ⟨μ2, s2, q2⟩
    exact hq F1 H1 μ2 .non .non (hd1.sub s2) rfl q2
  · rintro F1 H1 μ1 d v e1 hd1 r1 ⟨μ2, s2, q2⟩
    exact hq F1 H1 μ2 d v (hd1.sub s2) r1 q2
  · intro _ _ _ _ _ _ _ _ z; exact z.elim
  · intro _ _ _ _ _ _ _ _ z; exact z.elim
/-- a def that stands with one default -/
theorem funD_mk {x qual : Str} {st : Stmt} {f T : Addr} {oc ocT : Value} {od an odT : Option Addr} {osl slT : Array (Option Value)} {kV doc pm cdv ct u : Value} {nT : Nat} {v : V} (l : K.lookup f = some ⟨oc, od, .func (PySem.W.fnOf x qual (defArgs st) (defBody st) (defScope st) (.ref T) kV doc pm an cdv ct), osl⟩)
    (c : PySem.W.codeIn K cdv qual = true) (k : PySem.W.keepIn K (.ref f) = true) (lT : K.lookup T = some ⟨ocT, odT, .seq #[u] nT, slT⟩) (r : RelV v u) :
    FunD K x qual (defArgs st) (defBody st) (defScope st) [v] [] f (PySem.W.fnOf x qual (defArgs st) (defBody st) (defScope st) (.ref T) kV doc pm an cdv ct) :=
  ⟨⟨oc, od, .ref T, kV, doc, pm, an, cdv, ct, osl, rfl, l, c, .inr ⟨by simp, T, _, [u], nT, rfl, lT, rfl, .cons r .nil⟩, .inl rfl⟩, k⟩
/-- the empty tuple that the text holds -/
theorem rep_tup0 {E : Addr} {odE : Option Addr} {slE : Array (Option Value)} {nE : Nat} (lE : K.lookup E = some ⟨.type "tuple", odE, .seq #[] nE, slE⟩) : ∀ F H, RepL K F H [.tup []] [.ref E] :=
  fun F H => .cons ⟨E, [], rfl, .inr fun H' => .inr ⟨_, #[], nE, lE, rfl, rfl, Nat.zero_le _, .nil⟩, RepL.nil⟩ RepL.nil
theorem rep_int1 (i : Int) : ∀ F H, RepL K F H [.int i] [.int i] := fun F H => .cons rfl RepL.nil
end
/-- how a call binds: n positional values, keywords named ks; the parameters behind the positional ones are taken by perm from the keywords' values and the defaults -/
structure KwX (K : PySem.W.Frag) (fd : FuncData) (ps ks : List Str) (n : Nat) (perm : List Nat) (its : List Value) : Prop where
  to : ∀ (s : Shared) (us ws : List Value), K.In s.heap → us.length = n → ws.length = ks.length → BindsTo s fd ⟨us, ks.zip ws⟩ (ps.zip (us ++ pick perm (ws ++ its)))
structure FdX (P : Program) (w : World) (K : PySem.W.Frag) (mg : Str → Option Value) (base : Heap) (x : Str) (k : Nat) (ps : List Str) (c : DSp) (ks : List Str) (n : Nat) (perm : List Nat) (dds : List D) : Prop where
  ex : ∃ (f : Addr) (fd : FuncData) (its : List Value) (dvs : List V), FnG P w K mg base k f fd ps (LSp K c) ∧ mg x = some (.ref f) ∧ PySem.W.keepIn K (.ref f) = true ∧ KwX K fd ps ks n perm its ∧ Vals dvs its ∧ ∀ F H, RepL K F H dds dvs
theorem kwx_of {K : PySem.W.Frag} {f : Addr} {fd : FuncData} {ps ks : List Str} {n : Nat} {perm : List Nat} {x q : Str} {st : Stmt} (F : Fun K x q st f fd)
    (h : ∀ (kV doc pm : Value) (an : Option Addr) (cdv ct : Value) (us ws : List Value), us.length = n → ws.length = ks.length → bindArgs (PySem.W.fnOf x q (defArgs st) (defBody st) (defScope st) .none kV doc pm an cdv ct) ⟨us, ks.zip ws⟩ = pure (ps.zip (us ++ pick perm (ws ++ [])))) : KwX K fd ps ks n perm [] := by
  obtain ⟨oc, od, kV, doc, pm, an, cdv, ct, osl, rfl, lk, hcd⟩ := F.ex
  exact ⟨fun s us ws _ h1 h2 => .of_eq (h kV doc pm an cdv ct us ws h1 h2)⟩
theorem kwx_ofD {K : PySem.W.Frag} {f : Addr} {fd : FuncData} {ps ks : List Str} {n : Nat} {perm : List Nat} {x q : Str} {st : Stmt} {dvs : List V} (F : FunD K x q (defArgs st) (defBody st) (defScope st) dvs [] f fd) (hd : dvs ≠ [])
    (h : ∀ (T : Addr) (kV doc pm : Value) (an : Option Addr) (cdv ct : Value) (us ws its : List Value), us.length = n → ws.length = ks.length → its.length = dvs.length → ∃ k, bindArgs (PySem.W.fnOf x q (defArgs st) (defBody st) (defScope st) (.ref T) kV doc pm an cdv ct) ⟨us, ks.zip ws⟩ = seqItems? (.ref T) >>= k ∧ k (some its.toArray) = pure (ps.zip (us ++ pick perm (ws ++ its)))) :
    ∃ its, Vals dvs its ∧ KwX K fd ps ks n perm its := by
  obtain ⟨oc, od, dV, kV, doc, pm, an, cdv, ct, osl, rfl, lk, hcd, hD, hK⟩ := F.ex
  rcases hD with ⟨e, _⟩ | ⟨_, T, o, its, m, rfl, lT, oT, rT⟩
  · exact absurd e hd
  · refine ⟨its, rT, ⟨fun s us ws X l1 l2 => ?_⟩⟩
    obtain ⟨k, e1, e2⟩ := h T kV doc pm an cdv ct us ws its l1 l2 rT.length.symm
    refine BindsTo.of_looks fun M => ?_
    rw [e1]
    exact looks_items X lT oT (.of_pure e2)
def dCallX (c : DSp) (e : DX) (n m : Nat) (perm : List Nat) (dds : List D) (ta tk : DTA) : DTE := fun δ μ q => ta δ μ fun ds μ1 => tk δ μ1 fun zs μ2 => ds.length = n ∧ zs.length = m ∧ c (ds ++ pick perm (zs ++ dds)) μ2 q e
section
variable {O : Org} {X : Cx} {k j n m : Nat} {f : Addr} {fd : FuncData} {ps ks : List Str} {c : DSp} {e : DX} {x : Str} {p pos kpos : Pos} {a : Expr} {es : List Expr} {t tk : DTA} {ta : DTE} {kws : List Keyword} {perm : List Nat} {nm : Option Str} {sp : Sp} {E : XK} {its : List Value} {dvs : List V} {dds : List D}
def tCallX (sp : Sp) (n m : Nat) (perm : List Nat) (dvs : List V) (E : XK) (t tk : TA) : TE := fun σ H Q => t σ H fun vs H1 => tk σ H1 fun zs H2 => vs.length = n ∧ zs.length = m ∧ sp (vs ++ pick perm (zs ++ dvs)) H2 Q E
theorem run_fnGX {pins : List (Addr × Obj)} {σ : L2.St} {H : Hp} {s : Shared} {Q : VK} {us ws : List Value} {vs zs : List V} (F : FnG X.prog X.w X.K X.mg X.base k f fd ps sp) (hr : Room k X.A) (hgd : X.A.guards = some []) (hb : KwX X.K fd ps ks n perm its) (hv : Vals dvs its) (hx : Passes (L2N.CX X.prog X.w) X E)
    (I : Inv X pins σ H s) (r : Vals vs us) (rz : Vals zs ws) (h1 : vs.length = n) (h2 : zs.length = ks.length) (h : sp (vs ++ pick perm (zs ++ dvs)) H Q E) : wpAny (model X.prog X.w) X.A (call (.ref f) us (ks.zip ws)) (EP X pins σ Q) X.xe s := by
  have rel := r.append (vals_pick (rz.append hv) perm)
  refine wpAny_call (codeAny_mono (F.run X.A X.stack s H ⟨us, ks.zip ws⟩ _ _ Q E hr hgd I.env0 (hb.to s us ws I.kIn (r.length.symm.trans h1) (rz.length.symm.trans h2)) rel h) ?_)
  intro res s2 end2
  match res, end2 with
  | .error e, end2 => exact hx pins σ H s e s2 I end2
  | .ok (.ret u), end2 => exact I.after end2
theorem pe_callGX {t tk : TA} (F : FnG X.prog X.w X.K X.mg X.base k f fd ps sp) (hr : Room k X.A) (hgd : X.A.guards = some []) (hg : Gl X x) (hm : X.mg x = some (.ref f)) (hk : PySem.W.keepIn X.K (.ref f) = true) (hb : KwX X.K fd ps ks n perm its) (hv : Vals dvs its) (hx : Passes (L2N.CX X.prog X.w) X E)
    (ha : PA X (a :: es) t) (hkw : PK X kws tk) (hall : (backToKw pos (keywordEach kws X.env)).all (·.1.isSome) = true) (hks : (backToKw pos (keywordEach kws X.env)).filterMap (·.1) = ks)
    (hdb : (x == ("__debug__" : Str)) = false) (he : starEach (a :: es) X.env = (false, eval a X.env) :: starEach es X.env)
    (hpl : ((backTo pos (starEach (a :: es) X.env)).any (·.1) || (backToKw pos (keywordEach kws X.env)).any (·.1.isNone)) = false) :
    PE X (.Call (.Name x p) (a :: es) kws pos) (tCallX sp n ks.length perm dvs E t tk) := by
  constructor
  intro pins s σ H Q I h
  refine wpAny_Call_Name_kw (ld_glob I hg hm ?_ hdb)
  refine PySem.W.callWith_KW (h₀ := X.base) I.ok.mod.kin hk hall (thn (ha.run pos pins s σ H _ I h) ?_) hpl he
  rintro us s1 ⟨vs, H1, I1, r, q⟩
  refine thn (hkw.run pos pins s1 σ H1 _ I1 q) ?_
  rintro ws s2 ⟨zs, H2, I2, rz, l1, l2, q2⟩
  refine ⟨I2.kIn, ?_⟩
  rw [hks]
  exact run_fnGX F hr hgd hb hv hx I2 r rz l1 l2 q2
theorem pe_callGX0 {tk : TA} (F : FnG X.prog X.w X.K X.mg X.base k f fd ps sp) (hr : Room k X.A) (hgd : X.A.guards = some []) (hg : Gl X x) (hm : X.mg x = some (.ref f)) (hk : PySem.W.keepIn X.K (.ref f) = true) (hb : KwX X.K fd ps ks 0 perm its) (hv : Vals dvs its) (hx : Passes (L2N.CX X.prog X.w) X E)
    (hkw : PK X kws tk) (hall : (backToKw pos (keywordEach kws X.env)).all (·.1.isSome) = true) (hks : (backToKw pos (keywordEach kws X.env)).filterMap (·.1) = ks)
    (hdb : (x == ("__debug__" : Str)) = false) (hpl : ((backTo pos (starEach [] X.env)).any (·.1) || (backToKw pos (keywordEach kws X.env)).any (·.1.isNone)) = false) :
    PE X (.Call (.Name x p) [] kws pos) (tCallX sp 0 ks.length perm dvs E tNil tk) := by
  constructor
  intro pins s σ H Q I h
  refine wpAny_Call_Name_kw (ld_glob I hg hm ?_ hdb)
  refine PySem.W.callWith_KW0 (h₀ := X.base) I.ok.mod.kin hk hall ?_ hpl
  refine thn (hkw.run pos pins s σ H _ I h) ?_
  rintro ws s2 ⟨zs, H2, I2, rz, l1, l2, q2⟩
  refine ⟨I2.kIn, ?_⟩
  rw [hks]
  exact run_fnGX F hr hgd hb hv hx I2 .nil rz l1 l2 q2
theorem lcallx {K : PySem.W.Frag} (hdd : ∀ F H, RepL K F H dds dvs) : ∀ σ H Q, LE K O (dCallX c e n m perm dds t tk) σ H Q → tCallX (LSp K c) n m perm dvs (LX K O e) (LA K O t) (LA K O tk) σ H Q := fun σ H Q ⟨F, δ, μ, q, hd, rs, t, k⟩ =>
  ⟨F, δ, μ, _, hd, rs, t, fun F1 H1 μ1 ds vs e1 hd1 r1 t1 => ⟨F1, δ, μ1, _, hd1, rs.ext e1, t1, fun F2 H2 μ2 zs us e2 hd2 r2 ⟨l1, l2, t2⟩ =>
    ⟨by rw [← r1.length]; exact l1, by rw [← r2.length]; exact l2, F2, μ2, ds ++ pick perm (zs ++ dds), q, e, hd2.here, (r1.ext e2).append (repL_pick (r2.append (hdd F2 H2)) perm), t2, fun F3 H3 μ3 d v hd3 r3 q3 => by
    obtain ⟨h1, h2⟩ := hd2.back hd3
    exact k F3 H3 μ3 d v ((e1.trans e2).trans h2) h1 r3 q3, fun cls dd H' ⟨C, b, v, d, F', μ', h1, h2, h3, h4, h5, h6⟩ => ⟨C, b, v, d, F', μ', h1, h2, h3, (hd2.back h4).1, h5, h6⟩⟩⟩⟩
theorem de_callFX (h : FdX X.prog X.w X.K X.mg X.base x j ps c ks n perm dds) (hr : Room j X.A) (hgd : X.A.guards = some []) (hx : Passes (L2N.CX X.prog X.w) X (LX X.K O e)) (hg : Gl X x) (ha : DA O X (a :: es) t) (hkw : DKw O X kws tk) (hdb : (x == ("__debug__" : Str)) = false := by decide)
    (hall : (backToKw pos (keywordEach kws X.env)).all (·.1.isSome) = true := by rfl) (hks : (backToKw pos (keywordEach kws X.env)).filterMap (·.1) = ks := by rfl)
    (he : starEach (a :: es) X.env = (false, eval a X.env) :: starEach es X.env := by rfl) (hpl : ((backTo pos (starEach (a :: es) X.env)).any (·.1) || (backToKw pos (keywordEach kws X.env)).any (·.1.isNone)) = false := by rfl) (hml : m = ks.length := by rfl) : DE O X (.Call (.Name x p) (a :: es) kws pos) (dCallX c e n m perm dds t tk) := by
  subst hml
  obtain ⟨f, fd, its, dvs, F, hm, hk, hb, hv, hdd⟩ := h.ex
  exact pe_weak (pe_callGX F hr hgd hg hm hk hb hv hx ha hkw hall hks hdb he hpl) (lcallx hdd)
theorem de_callFX0 (h : FdX X.prog X.w X.K X.mg X.base x j ps c ks 0 perm dds) (hr : Room j X.A) (hgd : X.A.guards = some []) (hx : Passes (L2N.CX X.prog X.w) X (LX X.K O e)) (hg : Gl X x) (hkw : DKw O X kws tk) (hdb : (x == ("__debug__" : Str)) = false := by decide)
    (hall : (backToKw pos (keywordEach kws X.env)).all (·.1.isSome) = true := by rfl) (hks : (backToKw pos (keywordEach kws X.env)).filterMap (·.1) = ks := by rfl)
    (hpl : ((backTo pos (starEach [] X.env)).any (·.1) || (backToKw pos (keywordEach kws X.env)).any (·.1.isNone)) = false := by rfl) (hml : m = ks.length := by rfl) : DE O X (.Call (.Name x p) [] kws pos) (dCallX c e 0 m perm dds dNil tk) := by
  subst hml
  obtain ⟨f, fd, its, dvs, F, hm, hk, hb, hv, hdd⟩ := h.ex
  refine pe_weak (pe_callGX0 F hr hgd hg hm hk hb hv hx hkw hall hks hdb hpl) fun σ H Q h => ?_
  have := lcallx hdd σ H Q h
  obtain ⟨F1, δ, μ, q, hd1, rs, t1, k1⟩ := this
  exact k1 F1 H μ [] [] (Ext.refl _ _) hd1 RepL.nil t1
end
/-- f(e, ..), the last parameters by their defaults -/
structure FdP (P : Program) (w : World) (K : PySem.W.Frag) (mg : Str → Option Value) (base : Heap) (x : Str) (k : Nat) (ps : List Str) (c : DSp) (dds : List D) : Prop where
  ex : ∃ (f : Addr) (fd : FuncData) (ds : List Value) (dvs : List V), FnG P w K mg base k f fd ps (LSp K c) ∧ mg x = some (.ref f) ∧ PySem.W.keepIn K (.ref f) = true ∧ Binds K fd ps ds ∧ Vals dvs ds ∧ ∀ F H, RepL K F H dds dvs
/-- C(e, ..) -/
structure Im (P : Program) (w : World) (K : PySem.W.Frag) (mg : Str → Option Value) (base : Heap) (x : Str) (C : Addr) (k : Nat) (ps : List Str) (c : DSp) (dds : List D) : Prop where
  ex : ∃ (f : Addr) (fd : FuncData) (ds : List Value) (dvs : List V), FnG P w K mg base k f fd ps (LSp K c) ∧ Mk K C f ∧ mg x = some (.ref C) ∧ Binds K fd ps ds ∧ Vals dvs ds ∧ ∀ F H, RepL K F H dds dvs
structure Pp (P : Program) (w : World) (K : PySem.W.Frag) (mg : Str → Option Value) (base : Heap) (C : Addr) (fl : Str) (k : Nat) (ps : List Str) (c : DSp) : Prop where
  ex : ∃ (pr g : Addr) (fd : FuncData), PropOf K C fl pr g ∧ FnG P w K mg base k g fd ps (LSp K c) ∧ Binds K fd ps []
structure Mm (P : Program) (w : World) (K : PySem.W.Frag) (mg : Str → Option Value) (base : Heap) (C : Addr) (m : Str) (k : Nat) (ps : List Str) (c : DSp) : Prop where
  ex : ∃ (f : Addr) (fd : FuncData), Meth K C m f ∧ FnG P w K mg base k f fd ps (LSp K c) ∧ Binds K fd ps []
section
variable {O : Org} {X : Cx} {k j : Nat} {C : Addr} {ps : List Str} {c : DSp} {e : DX} {x m fl : Str} {p pos apos : Pos} {a o : Expr} {es : List Expr} {t : DTA} {te : DTE} {dds : List D}
theorem de_callP (h : FdP X.prog X.w X.K X.mg X.base x j ps c dds) (hr : Room j X.A) (hgd : X.A.guards = some []) (hx : Passes (L2N.CX X.prog X.w) X (LX X.K O e)) (hg : Gl X x) (ha : DA O X (a :: es) t) (hdb : (x == ("__debug__" : Str)) = false := by decide)
    (he : starEach (a :: es) X.env = (false, eval a X.env) :: starEach es X.env := by rfl) (hpl : (backTo pos (starEach es X.env)).any (·.1) = false := by rfl) : DE O X (.Call (.Name x p) (a :: es) [] pos) (dCall c e dds t) := by
  obtain ⟨f, fd, ds, dvs, F, hm, hk, hb, hv, hdd⟩ := h.ex
  exact de_call F hr hgd hg hm hk hb hv hdd hx ha hdb he hpl
theorem de_makeI (h : Im X.prog X.w X.K X.mg X.base x C k ps c dds) (hr : Room (k + 1) X.A) (hgd : X.A.guards = some []) (hx : Passes (L2N.CX X.prog X.w) X (LX X.K O e)) (hg : Gl X x) (ha : DA O X (a :: es) t) (hdb : (x == ("__debug__" : Str)) = false := by decide)
    (he : starEach (a :: es) X.env = (false, eval a X.env) :: starEach es X.env := by rfl) (hpl : (backTo pos (starEach es X.env)).any (·.1) = false := by rfl) : DE O X (.Call (.Name x p) (a :: es) [] pos) (dMakeZ C c e dds t) := by
  obtain ⟨f, fd, ds, dvs, F, M, hm, hb, hv, hdd⟩ := h.ex
  exact de_makeZ M F hr hgd hg hm hb hv hdd hx ha hdb he hpl
theorem de_propP (cc : L2.Cls X.K C) (h : Pp X.prog X.w X.K X.mg X.base C fl k ps c) (hr : Room (k + 1) X.A) (hgd : X.A.guards = some []) (he : DE O X a te) (hab : attributeBase a fl X.env (eval a X.env) = eval a X.env := by rfl) : DE O X (.Attribute a fl pos) (dProp C c te) := by
  obtain ⟨pr, g, fd, hp, F, hb⟩ := h.ex
  exact de_prop cc hp F hr hgd hb he hab
theorem de_methM {pl : Sem Bool} (cc : L2.Cls X.K C) (h : Mm X.prog X.w X.K X.mg X.base C m k ps c) (hr : Room k X.A) (hgd : X.A.guards = some []) (hx : Passes (L2N.CX X.prog X.w) X (LX X.K O e)) (he : DE O X o te) (ha : DA O X (a :: es) t)
    (hst : starEach (a :: es) X.env = (false, eval a X.env) :: starEach es X.env := by rfl) (hpl : (backTo pos (starEach es X.env)).any (·.1) = false := by rfl)
    (ht : eval (.Call (.Attribute o m apos) (a :: es) [] pos) X.env = (do
      let ov ← eval o X.env
      standAt apos.atName
      let (f, first) ← holding [ov] (getMethod ov m pl)
      callWith pos f first (backTo pos (starEach (a :: es) X.env)) (backToKw pos (keywordEach [] X.env))) := by rfl) :
    DE O X (.Call (.Attribute o m apos) (a :: es) [] pos) (dMeth C m c e te t) := by
  obtain ⟨f, fd, hm, F, hb⟩ := h.ex
  exact de_meth cc hm F hr hgd hb hx he ha hst hpl ht
def dMeth0 (C : Addr) (m : Str) (c : DSp) (e : DX) (te : DTE) : DTE := fun δ μ q => te δ μ fun x μ1 => noFld C m μ1 x ∧ c [x] μ1 q e
theorem pe_methG0 {f : Addr} {fd : FuncData} {sp : Sp} {E : XK} {pl : Sem Bool} {ta : TE} (he : PE X o ta) (cc : L2.Cls X.K C) (hm : Meth X.K C m f) (F : FnG X.prog X.w X.K X.mg X.base k f fd ps sp) (hr : Room k X.A) (hgd : X.A.guards = some []) (hb : Binds X.K fd ps []) (hx : Passes (L2N.CX X.prog X.w) X E)
    (ht : eval (.Call (.Attribute o m apos) [] [] pos) X.env = (do
      let ov ← eval o X.env
      standAt apos.atName
      let (f, first) ← holding [ov] (getMethod ov m pl)
      callWith pos f first (backTo pos (starEach [] X.env)) (backToKw pos (keywordEach [] X.env)))) :
    PE X (.Call (.Attribute o m apos) [] [] pos) (tMeth C m sp [] E ta tNil) := by
  refine ⟨fun pins s σ H Q I h => ?_⟩
  refine PySem.W.methodCall_KW (pl := pl) (thn (he.run pins s σ H _ I h) fun u s1 ⟨x, H1, I1, rx, a, dx, fs, ex, ea, l, q⟩ => ?_) ht
  subst ex
  obtain rfl : u = Value.ref a := rx
  refine getmeth_ok I1 ea cc hm l ?_
  exact PySem.W.callWith_K0 (first := [.ref a]) I1.kIn hm.kp (run_fnG (us := [.ref a]) (vs := [.ref a]) (dvs := []) (ds := []) F hr hgd hb .nil hx I1 (.cons rfl .nil) q)
theorem de_methM0 {pl : Sem Bool} (cc : L2.Cls X.K C) (h : Mm X.prog X.w X.K X.mg X.base C m k ps c) (hr : Room k X.A) (hgd : X.A.guards = some []) (hx : Passes (L2N.CX X.prog X.w) X (LX X.K O e)) (he : DE O X o te)
    (ht : eval (.Call (.Attribute o m apos) [] [] pos) X.env = (do
      let ov ← eval o X.env
      standAt apos.atName
      let (f, first) ← holding [ov] (getMethod ov m pl)
      callWith pos f first (backTo pos (starEach [] X.env)) (backToKw pos (keywordEach [] X.env))) := by rfl) :
    DE O X (.Call (.Attribute o m apos) [] [] pos) (dMeth0 C m c e te) := by
  obtain ⟨f, fd, hm, F, hb⟩ := h.ex
  refine pe_weak (pe_methG0 he cc hm F hr hgd hb hx ht) fun σ H Q ⟨F0, δ, μ, q, hd, rs, t, k⟩ => ⟨F0, δ, μ, _, hd, rs, t, fun F1 H1 μ1 x v e1 hd1 r1 ⟨ho, t1⟩ => ?_⟩
  obtain ⟨a0, dx, fs, rfl, h1, hn⟩ := obj_no hd1 r1 ho
  refine ⟨a0, dx, fs, rfl, h1, hn, ?_⟩
  refine ⟨F1, μ1, [x], q, e, hd1.here, .cons r1 RepL.nil, t1, fun F3 H3 μ3 d v hd3 r3 q3 => ?_, fun cls dd H' ⟨C, b, v, d, F', μ', h1, h2, h3, h4, h5, h6⟩ => ⟨C, b, v, d, F', μ', h1, h2, h3, (hd1.back h4).1, h5, h6⟩⟩
  obtain ⟨p1, p2⟩ := hd1.back hd3
  exact k F3 H3 μ3 d v (e1.trans p2) p1 r3 q3
end
/-! ### len(o) by an own __len__ -/
section
variable {X : Cx} {k : Nat} {C : Addr} {ps : List Str} {c : DSp}
def rLenOwn (K : PySem.W.Frag) (C : Addr) (c : DSp) : List V → Hp → VK → Prop := fun xs H Q => ∃ a dx fs, xs = [.ref a] ∧ H a = some (.ins C dx fs) ∧ LSp K c [.ref a] H (fun v H' => ∃ n : Nat, v = .int n ∧ n ≤ sizeLine ∧ Q (.int n) H') fun _ _ _ => False
theorem call_lenOwn (h : Mm X.prog X.w X.K X.mg X.base C "__len__" k ps c) (hr : Room (k + 1) X.A) (hgd : X.A.guards = some []) : CallR X (.builtin "len") (rLenOwn X.K C c) := by
  intro pins s σ H xs us Q I r hq
  obtain ⟨f, fd, hm, F, hb⟩ := h.ex
  obtain ⟨a, dx, fs, rfl, ea, q⟩ := hq
  obtain ⟨u, rfl, rx⟩ := vals1 r
  obtain rfl : u = Value.ref a := rx
  have hz := sizeLine_eq
  refine Calls.call_function_entry kind_len plain_len entry_len (args_len1 _) ?_
  unfold Builtin.«len»
  refine wpAny_bind (m := oneArg "len" _) (wpAny_pure ?_)
  obtain ⟨mA, Ob, _⟩ := ins_get I.hok ea
  obtain ⟨od, J, _⟩ := Ob.look
  have hl : ([Value.ref a] ++ []).length = ps.length := F.len _ _ _ _ q
  refine wpAny_bind (m := callSpecial? (.ref a) (Str.ofString "__len__")) (PySem.W.special_fn I.kIn J hm.at_ (beq_iff_eq.mp hm.fn) (wpAny_call ?_))
  refine codeAny_mono (F.run X.A.in1 X.stack s H ⟨[.ref a], []⟩ [.ref a] [.ref a] _ _ hr.in1 hgd I.env0.in1 (hb _ [.ref a] I.kIn hl) (.cons rfl .nil) q) ?_
  intro res s2 end2
  match res, end2 with
  | .error er, end2 =>
    obtain ⟨a, B, H', cls, d, _, _, _, _, _, _, _, z⟩ := end2
    exact z.elim
  | .ok (.ret u), end2 =>
    obtain ⟨v, H', I3, rv, n, rfl, hn, q3⟩ := I.after end2
    obtain ⟨t, rfl⟩ := rv
    refine wpAny_bind (wpAny_holding (wpAny_pure ?_))
    refine wpAny_bind (wpAny_letGo ?_)
    show wpAny _ _ (if ((n : Nat) : Int) < 0 then _ else _) _ _ _
    rw [if_neg (by omega)]
    show wpAny _ _ (if ((n : Nat) : Int) ≥ 2 ^ 63 then _ else _) _ _ _
    rw [if_neg (by omega)]
    exact wpAny_bind (wpAny_mkInt (wpAny_pure ⟨_, rfl, .int n, H', I3.tok _, ⟨_, rfl⟩, q3⟩))
/-- len: of an object of C by its own, of all else as ever -/
def rLenX (C : Addr) (c : DSp) : DC2 := fun ds μ q => match ds with
  | [.ins C' ns l] => C' = C ∧ c [.ins C' ns l] μ (fun d μ' => ∃ n : Nat, d = .int n ∧ n ≤ sizeLine ∧ q d μ') eN
  | ds => rLenD ds μ q
theorem cd_lenX {K : PySem.W.Frag} : CallD K (fun xs H Q => rLenOwn K C c xs H Q ∨ (fun xs H Q => ∃ x n, xs = [x] ∧ LenV K x H n ∧ Q (.int n) H) xs H Q) (rLenX C c) := by
  intro O F H μ ds vs q Q hd rs t k
  unfold rLenX at t
  split at t
  · rename_i C' ns l
    obtain ⟨rfl, t⟩ := t
    obtain ⟨v, rfl, h1⟩ := repL1 rs
    have h1' := h1
    obtain ⟨a, dx, us, rfl, ⟨_, h2⟩, h3, h4⟩ := h1'
    refine .inl ⟨a, dx, _, rfl, h2, F, μ, [.ins C' ns l], _, eN, hd.here, .cons h1 RepL.nil, t, fun F2 H2 μ2 d v hd2 r2 ⟨n, e1, e2, q2⟩ => ?_, fun cls dd H' ⟨_, _, _, _, _, _, _, _, _, _, _, _, z⟩ => z.elim⟩
    subst e1
    obtain rfl : v = .int n := r2
    obtain ⟨p1, p2⟩ := hd.back hd2
    exact ⟨n, rfl, e2, k F2 H2 μ2 _ _ p2 p1 rep_int q2⟩
  · exact .inr (cd_len O F H μ _ vs q Q hd rs t k)
end
end DL

set_option Elab.async false
set_option linter.all false
set_option maxRecDepth 100000
/-! DC2: tables of the top; int(flag) -/
namespace DL
open PySem L2
section
variable {O : Org} {X : Cx} {x : Str} {d : Addr} {tab : List (Str × D)} {miss : List Str} {pos : Pos} {a b : Expr} {ta tb : DTE}
theorem de_kdIn (T : KdTab X.K X.w X.mg x d tab miss) (ha : DE O X a ta) (hb : DE O X b tb) (hm : behindInMarks .In b = false := by rfl) : DE O X (.Compare a [.In] [b] pos) (dOp (rKdIn false d tab miss) ta tb) := by
  obtain ⟨es, n, D⟩ := T.kd
  exact de_cmp (op_in_kd D) (od_kdIn T) ha hb hm
theorem de_kdNotIn (T : KdTab X.K X.w X.mg x d tab miss) (ha : DE O X a ta) (hb : DE O X b tb) (hm : behindInMarks .NotIn b = false := by rfl) : DE O X (.Compare a [.NotIn] [b] pos) (dOp (rKdIn true d tab miss) ta tb) := by
  obtain ⟨es, n, D⟩ := T.kd
  exact de_cmp (op_notIn_kd D) (od_kdNotIn T) ha hb hm
theorem dt_kdIn (T : KdTab X.K X.w X.mg x d tab miss) (ha : DE O X a ta) (hb : DE O X b tb) (hm : behindInMarks .In b = false := by rfl) : DT O X (.Compare a [.In] [b] pos) (dTest (dOp (rKdIn false d tab miss) ta tb)) := by
  obtain ⟨es, n, D⟩ := T.kd
  exact dt_cmp (op_in_kd D) (od_kdIn T) ha hb hm
theorem dt_kdNotIn (T : KdTab X.K X.w X.mg x d tab miss) (ha : DE O X a ta) (hb : DE O X b tb) (hm : behindInMarks .NotIn b = false := by rfl) : DT O X (.Compare a [.NotIn] [b] pos) (dTest (dOp (rKdIn true d tab miss) ta tb)) := by
  obtain ⟨es, n, D⟩ := T.kd
  exact dt_cmp (op_notIn_kd D) (od_kdNotIn T) ha hb hm
end
section
variable {K : PySem.W.Frag} {d : Addr} {tab : List (Str × D)}
def Hits (K : PySem.W.Frag) (d : Addr) (tab : List (Str × D)) : Prop := ∀ z e, tab.lookup z = some e → ∃ u v, PySem.W.nsIn K d z = some (some u) ∧ RelV v u ∧ ∀ F H, Rep K F H e v
theorem hits_nil : Hits K d [] := fun z e h => by simp at h
theorem hits_cons {w : Str} {e : D} {u : Value} {v : V} (h : PySem.W.nsIn K d w = some (some u)) (r : RelV v u) (p : ∀ F H, Rep K F H e v) (t : Hits K d tab) : Hits K d ((w, e) :: tab) := fun z e' h' => by
  rw [List.lookup_cons] at h'
  cases q : (z == w) with
  | true =>
    rw [q] at h'
    cases h'
    rw [eq_of_beq q]
    exact ⟨u, v, h, r, p⟩
  | false =>
    rw [q] at h'
    exact t z e' h'
def Misses (K : PySem.W.Frag) (d : Addr) (l : List Str) : Prop := ∀ z, z ∈ l → PySem.W.nsIn K d z = some none
theorem misses_nil : Misses K d [] := fun z h => by simp at h
theorem misses_cons {w : Str} {l : List Str} (h : PySem.W.nsIn K d w = some none) (t : Misses K d l) : Misses K d (w :: l) := fun z hz => by
  rcases List.mem_cons.mp hz with e | e
  · rw [e]; exact h
  · exact t z e
theorem rep_tupI {a : Addr} {od : Option Addr} {sl : Array (Option Value)} {n : Nat} {us : List Value} (ns : List Int) (l : K.lookup a = some ⟨.type "tuple", od, .seq us.toArray n, sl⟩) (hl : us.length ≤ 1000) (r : Vals (ns.map V.int) us) : ∀ F H, Rep K F H (.tup (ns.map D.int)) (.ref a) :=
  fun F H => ⟨a, ns.map V.int, rfl, .inr fun H' => .inr ⟨_, us.toArray, n, l, rfl, rfl, by rw [List.size_toArray, sizeLine_eq]; omega, by simpa using r⟩, RepL.of_ints ns⟩
end
/-! ### int(x): a whole number, True, False -/
def rIntD : DC2 := fun ds μ q => match ds with
  | [.int i] => q (.int i) μ
  | [.bl b] => q (.int (if b = true then 1 else 0)) μ
  | _ => False
theorem cd_int {K : PySem.W.Frag} : CallD K (fun xs H Q => (∃ i, xs = [.int i] ∧ Q (.int i) H) ∨ (∃ b, xs = [.bl b] ∧ Q (.int (if b then 1 else 0)) H)) rIntD := by
  intro O F H μ ds vs q Q hd rs t k
  unfold rIntD at t
  split at t
  · rename_i i
    obtain ⟨v, rfl, h1⟩ := repL1 rs
    obtain rfl : v = .int i := h1
    exact .inl ⟨i, rfl, k F H μ _ _ (Ext.refl F H) hd rep_int t⟩
  · rename_i b
    obtain ⟨v, rfl, h1⟩ := repL1 rs
    obtain rfl : v = .bl b := h1
    exact .inr ⟨b, rfl, k F H μ _ _ (Ext.refl F H) hd rep_int t⟩
  · exact t.elim
end DL

set_option Elab.async false
set_option linter.all false
set_option maxRecDepth 100000
/-! DE2: enumerate of a tuple -/
namespace DL
open PySem L2 PySem.Spec PyProof.Rows
open AutoSeq1 (wpAny_loadPart')
theorem meets_enumerate_newT (l : Addr) (items : Array Value) :
    Meets (Builtin.«enumerate.__new__» ⟨[.type "enumerate", .ref l], []⟩) (fun _ R s => s.heap.IsTuple l items ∧
      R (.ok (.ret (.ref (s.heap.push { cls := .type "tuple_iterator", data := .fields #[.ref l, .int 0 0] }).objs.size)))
        { s with heap := (s.heap.push { cls := .type "tuple_iterator", data := .fields #[.ref l, .int 0 0] }).push { cls := .type "enumerate", data := .fields #[.none, .bool false, .ref s.heap.objs.size, rawInt 0, .none, .none] } }) :=
  .of_wp fun prog w A R s h => by
    obtain ⟨hp, g, d, tk, os⟩ := s; obtain ⟨hL, h⟩ := h
    have hsub := sub_enumerate
    wp_walk
    refine wpAny_stack_any fun st => wpAny_pure ?_
    split
    · rename_i c _ _ _ _ _
      cases (c == Value.type "enumerate")
      · wp_walk using wpAny_pyIter_tuple hL
        exact ⟨_, rfl, h⟩
      · wp_walk using wpAny_pyIter_tuple hL
        exact ⟨_, rfl, h⟩
    · wp_walk using wpAny_pyIter_tuple hL
      exact ⟨_, rfl, h⟩
theorem call_enumerate_tuple {prog : Program} {w : World} {A : Around} {E : Value → Shared → Prop} {s : Shared} {l : Addr} {items : Array Value} {Q : Value → Shared → Prop} (hL : s.heap.IsTuple l items)
    (h : ∀ h', IsEnum h' (s.heap.objs.size + 1) s.heap.objs.size 0 .none → h'.IsTupleIter s.heap.objs.size l 0 → h'.objs.size = s.heap.objs.size + 2 →
      (∀ b o, s.heap.get? b = some o → h'.get? b = some o) → Q (.ref (s.heap.objs.size + 1)) { s with heap := h' }) :
    wpAny (model prog w) A (call (.type "enumerate") [.ref l]) Q E s := by
  refine callType_new F.called_enumerate (by decide) (F.typeCall_enumerate_1 _) (F.newCall_enumerate_1 _) (fun obj => F.args_object_init_2 obj _) F.entry_enumerate_new
    (meets_enumerate_newT l items) ⟨hL, ?_⟩
  have hz : (s.heap.push { cls := .type "tuple_iterator", data := .fields #[.ref l, .int 0 0] }).objs.size = s.heap.objs.size + 1 := Heap.size_push ..
  show _ ∧ _
  rw [hz]
  have he : IsEnum ((s.heap.push { cls := .type "tuple_iterator", data := .fields #[.ref l, .int 0 0] }).push
      { cls := .type "enumerate", data := .fields #[.none, .bool false, .ref s.heap.objs.size, rawInt 0, .none, .none] }) (s.heap.objs.size + 1) s.heap.objs.size 0 .none := by
    have := Heap.get?_push_size (s.heap.push { cls := .type "tuple_iterator", data := .fields #[.ref l, .int 0 0] })
      (o := { cls := .type "enumerate", data := .fields #[.none, .bool false, .ref s.heap.objs.size, rawInt 0, .none, .none] }) rfl
    rw [hz] at this; exact this
  refine ⟨⟨_, he, rfl⟩, h _ he ⟨_, Heap.get?_push_of_some _ (Heap.get?_push_size _ rfl), rfl, rfl⟩ (by rw [Heap.size_push, hz]) fun b o x => Heap.get?_push_of_some _ (Heap.get?_push_of_some _ x)⟩
theorem drawsTup {prog : Program} {w : World} {A : Around} (hh : A.handled = none) (it l : Addr) (hne : l ≠ it) (items : Array Value) :
    Draws prog w A it [it, l] items.size (fun i v => items[i]? = some v) (fun i h => h.IsTupleIter it l i ∧ h.IsTuple l items) where
  live := fun _ _ st => let ⟨o, ho, _⟩ := st.1; ⟨o, ho⟩
  frame := fun _ _ _ st hk => ⟨let ⟨o, e, r⟩ := st.1; ⟨o, hk it (by simp) o e, r⟩, let ⟨o, e, r⟩ := st.2; ⟨o, hk l (by simp) o e, r⟩⟩
  item := fun i s Q E hi st hQ => by
    refine RZ.nextOf_tuple_item st.1 st.2 (x := items[i]) (by simp [hi]) fun h' hit' hs' => ?_
    obtain ⟨o, e, r⟩ := st.2
    exact hQ _ h' s.toks (by simp [hi]) ⟨hit', o, hs'.extBut l o hne e, r⟩ hs'
  done := fun s Q E st hE => RZ.nextOf_tuple_end hh st.1 st.2 (by simp) hE
/-- the tuple at a, each item in a new pair -/
def IteT (K : PySem.W.Frag) (a : Addr) : It :=
  ⟨fun i H => ∃ (xs : List V) (x : V), SqT K H a xs ∧ xs[i]? = some x, fun i H v H' => ∃ T x, v = .ref T ∧ H T = none ∧ H' = upd H T (.tup [.int (i : Nat), x]) ∧ ∀ xs, SqT K H a xs → xs[i]? = some x, fun i H => ∃ xs : List V, SqT K H a xs ∧ xs.length ≤ i⟩
theorem turn_enumT {P : Program} {w : World} {K : PySem.W.Frag} {elts : List Expr} {kk : Nat} {tpos : Pos} (a e it : Addr) (hai : a ≠ it) (hae : a ≠ e) :
    Turn P w K (.Tuple elts kk tpos) (IteT K a) [e, it] e (fun i h => (∃ old, IsEnum h e it ((i : Nat) : Int) old) ∧ h.IsTupleIter it a i ∧ e ≠ it) where
  mem := by simp
  obj := fun i h st b hb => by
    obtain ⟨⟨old, he⟩, ⟨o, ho, hc, hd⟩, _⟩ := st
    have e' : b = e ∨ b = it := by simpa using hb
    rcases e' with z | z
    · rw [z]; exact ⟨_, he, fun v q => nomatch q⟩
    · rw [z]; exact ⟨o, ho, fun v q => by rw [hd] at q; cases q⟩
  keep := fun i h h' st k => let ⟨⟨old, he⟩, ⟨o, q, r⟩, hne⟩ := st; ⟨⟨old, k e (by simp) _ he⟩, ⟨o, k it (by simp) o q, r⟩, hne⟩
  item := by
    intro X hP hw hK hc i pins s σ H E I hf st hg
    subst hP hw hK
    obtain ⟨⟨old, he⟩, hit, hne⟩ := st
    obtain ⟨xs, x, hq, hx⟩ := hg
    obtain ⟨its, rv, p, hz⟩ := I.tuple hq
    obtain ⟨u, hu, ru⟩ := rv.get hx
    have hel : e < s.heap.objs.size := Heap.lt_size he
    have hil : it < s.heap.objs.size := by obtain ⟨_, q, _⟩ := hit; exact Heap.lt_size q
    have hlt : i < its.toArray.size := by
      have := (List.getElem?_eq_some_iff.mp hu).1
      simpa using this
    refine wpAny_pyNext_enum_itemD (drawsTup (prog := X.prog) (w := X.w) (A := X.A.in1) (I.ok.hd hc) it a hai its.toArray) he ⟨hit, p⟩ hlt hne (by simp [hne, Ne.symm hae]) fun x' h' tk hx' ho hit' hT hsz hk => ?_
    have ex : x' = u := by
      have h1 : its[i]? = some x' := by simpa using hx'
      rw [hu] at h1; exact (Option.some.inj h1).symm
    subst ex
    refine ⟨_, rfl, wpAny_letOwnedTupleGo_enum (s := { s with heap := h', toks := tk + 1 }) ho fun h'' he' sb => ?_⟩
    have hT2 : h''.get? s.heap.objs.size = some { cls := .type "tuple", data := .seq #[.int i tk, x'] } := (sb.2 _ (Nat.ne_of_gt hel)).trans hT
    have new : ObjOk X.prog X.w (upd H s.heap.objs.size (.tup [.int (i : Nat), x])) h'' s.heap.objs.size (.tup [.int (i : Nat), x]) :=
      ⟨by show 2 ≤ sizeLine; decide, [.int i tk, x'], .cons ⟨_, rfl⟩ (.cons ru .nil), ⟨_, hT2, rfl, _, rfl⟩⟩
    have I1 : Inv X pins σ (upd H s.heap.objs.size (.tup [.int (i : Nat), x])) { s with heap := h'', toks := tk + 1 } :=
      I.turnedNew (ch := [e, it]) (fun b ob hb q => (sb.2 b (fun z => hb (by simp [z]))).trans (hk b ob (fun z => hb (by simp [z])) (fun z => hb (by simp [z])) q)) hf (Nat.le_refl _) new
    refine ⟨.ref s.heap.objs.size, _, I1, rfl, ⟨_, x, rfl, I.hok.fresh (Nat.le_refl _), rfl, fun ys hy => by rw [I.tuple_inj hy hq]; exact hx⟩, ⟨⟨x', ?_⟩, ?_, hne⟩, fun b hb => ?_⟩
    · have e1 : ((i + 1 : Nat) : Int) = (i : Int) + 1 := by omega
      rw [e1]; exact he'
    · obtain ⟨o, q, r⟩ := hit'.1
      exact ⟨o, (sb.2 it (Ne.symm hne)).trans q, r⟩
    · have hb' : b < s.heap.objs.size := by
        have e' : b = e ∨ b = it := by simpa using hb
        rcases e' with z | z
        · rw [z]; exact hel
        · rw [z]; exact hil
      rw [upd_ne (Nat.ne_of_lt hb')]
      exact (hf b hb).1
  done := by
    intro X hP hw hK hc i pins s σ H E I hf st hg
    subst hP hw hK
    obtain ⟨⟨old, he⟩, hit, hne⟩ := st
    obtain ⟨xs, hq, hx⟩ := hg
    obtain ⟨its, rv, p, hz⟩ := I.tuple hq
    obtain ⟨f0, f1, f2, f3, f4, f5⟩ := hf it (by simp)
    have hl := rv.length
    have hT : s.TypeIs (.ref e) "enumerate" := ⟨_, he, rfl⟩
    unfold pyNext
    refine wpAny_bind (wpAny_attempt (wpAny_callSpecial?_slot (name := Str.ofString "__next__") hT F.slot_enumerate_next
      (wpAny_call_entry F.slot_enumerate_next hT F.entry_enumerate_next ?_ (F.args_enumerate_next_1 _))))
    show wpAny _ _ (field (.ref e) 2 >>= _) _ _ _
    refine wpAny_bind (wpAny_field he rfl (x := .ref it) rfl ?_)
    refine wpAny_bind (RZ.nextOf_tuple_end (A := X.A.in1) (I.ok.hd hc) hit p (by simp; omega) fun h' x he' hx' => ?_)
    obtain ⟨o, ho, hc'⟩ := hx'
    refine wpAny_bind (wpAny_isInstance (T := "StopIteration") (b := true) ⟨o, ho, hc'⟩ isSubtype_stop ?_)
    exact wpAny_pure ⟨rfl, I.turned (t' := s.toks) (fun b o hb q => he' b o hb q) f0 f1 f3 f4 f5⟩
  self := fun A i s Q E st h => let ⟨⟨_, he⟩, _⟩ := st; wpAny_pyIter_enum he h
def iEnumT (K : PySem.W.Frag) (ta : TA) : TI := fun σ H R => ta σ H fun vs H1 => ∃ a xs, vs = [.ref a] ∧ SqT K H1 a xs ∧ R (IteT K a) H1
theorem pi_enumT {X : Cx} {e : Expr} {ta : TA} {p pos tpos : Pos} {elts : List Expr} {kk : Nat} (hg : Gl X "enumerate") (hm : X.mg "enumerate" = none) (ha : PA X [e] ta) (hs : starEach [e] X.env = [(false, eval e X.env)] := by rfl) :
    PI X (.Tuple elts kk tpos) (.Call (.Name "enumerate" p) [e] [] pos) (iEnumT X.K ta) := by
  refine ⟨fun pins s σ H R I h => ?_⟩
  refine Call_ (ld_blt I hg hm boot_enumerate (PyProof.Rows.callWith_type1 (thn (ha.run pos pins s σ H _ I h) fun us s1 ⟨vs, H1, I1, r1, q1⟩ => ?_) hs rfl))
  obtain ⟨a, xs, ex, hq, q⟩ := q1
  subst ex
  cases r1 with
  | cons r rr =>
    cases rr
    cases r
    obtain ⟨its, rv, p', hz⟩ := I1.tuple hq
    have hlt : a < s1.heap.objs.size := by obtain ⟨o, ho, _⟩ := p'; exact Heap.lt_size ho
    refine call_enumerate_tuple (items := its.toArray) p' fun h' he hit hsz hk => wpAny_pyIter_enum he ?_
    have I2 : Inv X pins σ H1 { s1 with heap := h' } := I1.kept (t' := s1.toks) hk
    refine ⟨s1.heap.objs.size + 1, [s1.heap.objs.size + 1, s1.heap.objs.size], _, _, H1, rfl, I2, turn_enumT a (s1.heap.objs.size + 1) s1.heap.objs.size (Nat.ne_of_lt hlt) (Nat.ne_of_lt (Nat.lt_succ_of_lt hlt)), ⟨⟨.none, he⟩, hit, Nat.succ_ne_self _⟩, fun b hb => ?_, q⟩
    have e' : b = s1.heap.objs.size + 1 ∨ b = s1.heap.objs.size := by simpa using hb
    have hle : s1.heap.objs.size ≤ b := by
      rcases e' with z | z
      · rw [z]; exact Nat.le_add_right _ _
      · rw [z]; exact Nat.le_refl _
    exact I1.fpOk hle (I1.hok.fresh hle)
section
variable {K : PySem.W.Frag} {O : Org} {F : Zo} {H : Hp}
theorem itok_enumT {items : List D} {a : Addr} {vs : List V} (hr : RepL K F H items vs)
    (st : ∀ F2 H2 μ2, Ext F H F2 H2 → Hd K O F2 H2 μ2 → SqT K H2 a vs) : ItOk K O F H (enumD 0 items) (fun _ => True) (IteT K a) := by
  have hlen := hr.length
  refine ⟨fun i F2 H2 μ2 e hd _ h => ?_, fun i F2 H2 μ2 x H3 e hd _ h hy => ?_, fun i F2 H2 μ2 e hd _ h => ?_⟩
  · rw [enumD_len] at h
    have hl : i < vs.length := by omega
    exact ⟨vs, vs[i], st F2 H2 μ2 e hd, by simp [hl]⟩
  · rw [enumD_len] at h
    obtain ⟨T, y, rfl, hT, rfl, hx⟩ := hy
    obtain ⟨d, e1, e2⟩ := (hr.ext e).get' (hx vs (st F2 H2 μ2 e hd))
    refine ⟨_, .tup [.int (i : Nat), d], ext_newF hd hT, hd.newF hT, ?_, ⟨T, _, rfl, .inl ⟨.inr rfl, .inl upd_same⟩, .cons rfl (.cons (e2.ext (ext_newF hd hT)) RepL.nil)⟩⟩
    have := enumD_get (k := 0) e1
    rwa [Nat.zero_add] at this
  · rw [enumD_len] at h
    exact ⟨vs, st F2 H2 μ2 e hd, by omega⟩
/-- of a list that is written, but not while it is walked -/
theorem itok_enumM {items : List D} {p : Addr} {vs : List V} (h0 : H p = some (.lst vs)) (hr : RepL K F H items vs) : ItOk K O F H (enumD 0 items) (fun μ => μ p = some (.lst items)) (Ite K p) := by
  have hlen := hr.length
  have q : ∀ F2 H2 μ2, Hd K O F2 H2 μ2 → μ2 p = some (.lst items) → ∃ ws, SqL K H2 p ws ∧ RepL K F2 H2 items ws := fun F2 H2 μ2 hd k => by
    obtain ⟨_, ws, h1, h2⟩ := hd.own p _ k
    exact ⟨ws, SqL.of h1, h2⟩
  refine ⟨fun i F2 H2 μ2 e hd k h => ?_, fun i F2 H2 μ2 x H3 e hd k h hy => ?_, fun i F2 H2 μ2 e hd k h => ?_⟩
  · rw [enumD_len] at h
    obtain ⟨ws, h1, h2⟩ := q F2 H2 μ2 hd k
    have hl : i < ws.length := by rw [← h2.length]; exact h
    exact ⟨ws, ws[i], h1, by simp [hl]⟩
  · obtain ⟨ws, h1, h2⟩ := q F2 H2 μ2 hd k
    obtain ⟨T, y, rfl, hT, rfl, hx⟩ := hy
    obtain ⟨d, e1, e2⟩ := h2.get' (hx ws h1)
    refine ⟨_, .tup [.int (i : Nat), d], ext_newF hd hT, hd.newF hT, ?_, ⟨T, _, rfl, .inl ⟨.inr rfl, .inl upd_same⟩, .cons rfl (.cons (e2.ext (ext_newF hd hT)) RepL.nil)⟩⟩
    have := enumD_get (k := 0) e1
    rwa [Nat.zero_add] at this
  · rw [enumD_len] at h
    obtain ⟨ws, h1, h2⟩ := q F2 H2 μ2 hd k
    exact ⟨ws, h1, by rw [← h2.length]; exact h⟩
end
/-- enumerate of a list or a tuple -/
def diEnX (te : DTA) : DTI := fun δ μ q => te δ μ fun ds μ1 => match ds with
  | [.tup l] => q (enumD 0 l) (fun _ => True) μ1
  | [.lst l] => q (enumD 0 l) (fun _ => True) μ1
  | [.rol l] => q (enumD 0 l) (fun _ => True) μ1
  | [.adr p] => ∃ l, μ1 p = some (.lst l) ∧ q (enumD 0 l) (fun μ => μ p = some (.lst l)) μ1
  | _ => False
def iEnumX (K : PySem.W.Frag) (ta : TA) : TI := fun σ H R => ta σ H fun vs H1 => ∃ a, vs = [.ref a] ∧ ((∃ xs, SqT K H1 a xs ∧ R (IteT K a) H1) ∨ ∃ xs, SqL K H1 a xs ∧ R (Ite K a) H1)
theorem pi_enumX {X : Cx} {e : Expr} {ta : TA} {p pos tpos : Pos} {elts : List Expr} {kk : Nat} (hg : Gl X "enumerate") (hm : X.mg "enumerate" = none) (ha : PA X [e] ta) (hs : starEach [e] X.env = [(false, eval e X.env)]) :
    PI X (.Tuple elts kk tpos) (.Call (.Name "enumerate" p) [e] [] pos) (iEnumX X.K ta) := by
  refine ⟨fun pins s σ H R I h => ?_⟩
  refine Call_ (ld_blt I hg hm boot_enumerate (PyProof.Rows.callWith_type1 (thn (ha.run pos pins s σ H _ I h) fun us s1 ⟨vs, H1, I1, r1, q1⟩ => ?_) hs rfl))
  obtain ⟨a, ex, q1⟩ := q1
  subst ex
  cases r1 with
  | cons r rr =>
    cases rr
    cases r
    have fp : ∀ b ∈ [s1.heap.objs.size + 1, s1.heap.objs.size], FpOk X pins H1 b := fun b hb => by
      have e' : b = s1.heap.objs.size + 1 ∨ b = s1.heap.objs.size := by simpa using hb
      have hle : s1.heap.objs.size ≤ b := by
        rcases e' with z | z
        · rw [z]; exact Nat.le_add_right _ _
        · rw [z]; exact Nat.le_refl _
      exact I1.fpOk hle (I1.hok.fresh hle)
    rcases q1 with ⟨xs, hq, q⟩ | ⟨xs, hq, q⟩
    · obtain ⟨its, rv, p', hz⟩ := I1.tuple hq
      have hlt : a < s1.heap.objs.size := by obtain ⟨o, ho, _⟩ := p'; exact Heap.lt_size ho
      refine call_enumerate_tuple (items := its.toArray) p' fun h' he hit hsz hk => wpAny_pyIter_enum he ?_
      have I2 : Inv X pins σ H1 { s1 with heap := h' } := I1.kept (t' := s1.toks) hk
      exact ⟨s1.heap.objs.size + 1, [s1.heap.objs.size + 1, s1.heap.objs.size], _, _, H1, rfl, I2, turn_enumT a (s1.heap.objs.size + 1) s1.heap.objs.size (Nat.ne_of_lt hlt) (Nat.ne_of_lt (Nat.lt_succ_of_lt hlt)), ⟨⟨.none, he⟩, hit, Nat.succ_ne_self _⟩, fp, q⟩
    · obtain ⟨its, rv, p', hz⟩ := I1.list hq
      refine call_enumerate_list p'.isList fun h' he hit hsz hk => wpAny_pyIter_enum he ?_
      have I2 : Inv X pins σ H1 { s1 with heap := h' } := I1.kept (t' := s1.toks) hk
      exact ⟨s1.heap.objs.size + 1, [s1.heap.objs.size + 1, s1.heap.objs.size], _, _, H1, rfl, I2, turn_enum a (s1.heap.objs.size + 1) s1.heap.objs.size, ⟨⟨.none, he⟩, hit, Nat.succ_ne_self _⟩, fp, q⟩
theorem di_enX {O : Org} {X : Cx} {e : Expr} {t : DTA} {pos p tpos : Pos} {elts : List Expr} {kk : Nat} (hg : Gl X "enumerate") (hm : X.mg "enumerate" = none) (ha : DA O X [e] t) (hs : starEach [e] X.env = [(false, eval e X.env)] := by rfl) :
    DI O X (.Tuple elts kk tpos) (.Call (.Name "enumerate" p) [e] [] pos) (diEnX t) :=
  pi_weak (pi_enumX hg hm ha hs) fun σ H R ⟨F, δ, μ, q, hd, rs, t, k⟩ => ⟨F, δ, μ, _, hd, rs, t, fun F1 H1 μ1 ds vs e1 hd1 r1 t1 => by
    match ds, t1, r1 with
    | [.tup l], t1, r1 =>
      obtain ⟨v, rfl, h1⟩ := repL1 r1
      obtain ⟨a, us, rfl, h2, h3⟩ := h1
      exact ⟨a, rfl, .inl ⟨us, h2.sq, k F1 H1 μ1 _ _ _ e1 hd1 (itok_enumT h3 fun F2 H2 μ2 e2 hd2 => (h2.ext e2).sq) t1⟩⟩
    | [.lst l], t1, r1 =>
      obtain ⟨v, rfl, h1⟩ := repL1 r1
      obtain ⟨a, us, rfl, h2, h3⟩ := h1
      exact ⟨a, rfl, .inr ⟨us, SqL.of h2.2, k F1 H1 μ1 _ _ _ e1 hd1 (itok_enum h3 fun F2 H2 μ2 e2 hd2 => SqL.of ((e2.hf h2.1).trans h2.2)) t1⟩⟩
    | [.rol l], t1, r1 =>
      obtain ⟨v, rfl, h1⟩ := repL1 r1
      obtain ⟨a, us, rfl, h2, h3⟩ := h1
      exact ⟨a, rfl, .inr ⟨us, h2.sq, k F1 H1 μ1 _ _ _ e1 hd1 (itok_enum h3 fun F2 H2 μ2 e2 hd2 => (h2.ext e2).sq) t1⟩⟩
    | [.adr p], t1, r1 =>
      obtain ⟨v, rfl, h1⟩ := repL1 r1
      obtain rfl : v = .ref p := h1
      obtain ⟨l, hm, t1⟩ := t1
      obtain ⟨_, us, h2, h3⟩ := hd1.own p _ hm
      exact ⟨p, rfl, .inr ⟨us, SqL.of h2, k F1 H1 μ1 _ _ _ e1 hd1 (itok_enumM h2 h3) t1⟩⟩⟩
end DL

set_option Elab.async false
set_option linter.all false
set_option maxRecDepth 100000
/-! DE3: texts: walked, compared -/
namespace DL
open PySem L2
def rLeX : DR2 := fun x y μ q => match x, y with
  | .int i, .int j => q (.bl (decide (i ≤ j))) μ
  | .str i, .str j => q (.bl (!decide (j.cps.toList < i.cps.toList))) μ
  | _, _ => False
theorem op_leX {X : Cx} : OpR X (compareOp .LtE) (fun x y H Q => (rI0 fun i j => .bl (decide (i ≤ j))) x y H Q ∨ (fun x y H Q => ∃ i j, x = .str i ∧ y = .str j ∧ Q (.bl (!decide (j.cps.toList < i.cps.toList))) H) x y H Q) := op_le.or op_le_str
theorem od_leX {K : PySem.W.Frag} : OpD K (fun x y H Q => (rI0 fun i j => .bl (decide (i ≤ j))) x y H Q ∨ (fun x y H Q => ∃ i j, x = .str i ∧ y = .str j ∧ Q (.bl (!decide (j.cps.toList < i.cps.toList))) H) x y H Q) rLeX := by
  intro O F H μ x y v w q Q hd rx ry t k
  unfold rLeX at t
  split at t
  · rename_i i j
    obtain rfl : v = .int i := rx
    obtain rfl : w = .int j := ry
    exact .inl ⟨i, j, rfl, rfl, k F H μ _ _ (Ext.refl F H) hd rep_bl t⟩
  · rename_i i j
    obtain rfl : v = .str i := rx
    obtain rfl : w = .str j := ry
    exact .inr ⟨i, j, rfl, rfl, k F H μ _ _ (Ext.refl F H) hd rep_bl t⟩
  · exact t.elim
/-- the signs of a text -/
def sgs (z : Str) : List D := z.cps.toList.map fun c => .str ⟨#[c]⟩
theorem itok_str {K : PySem.W.Frag} {O : Org} {F : Zo} {H : Hp} (z : Str) : ItOk K O F H (sgs z) (fun _ => True) (Its z) := by
  have hl : (sgs z).length = z.cps.toList.length := by simp [sgs]
  refine ⟨fun i F2 H2 μ2 _ _ _ h => ?_, fun i F2 H2 μ2 x H3 e hd _ h hy => ?_, fun i F2 H2 μ2 _ _ _ h => ?_⟩
  · rw [hl] at h
    first | exact h | simpa using h
  · obtain ⟨rfl, c, hc, rfl⟩ := hy
    refine ⟨F2, .str ⟨#[c]⟩, Ext.refl _ _, hd, ?_, rfl⟩
    unfold sgs
    rw [List.getElem?_map, Array.getElem?_toList, hc]; rfl
  · rw [hl] at h
    first | exact h | simpa using h
/-- a list, a tuple, a text -/
def diSq (te : DTE) : DTI := fun δ μ q => te δ μ fun d μ1 => match d with
  | .tup l => q l (fun _ => True) μ1
  | .lst l => q l (fun _ => True) μ1
  | .rol l => q l (fun _ => True) μ1
  | .str z => q (sgs z) (fun _ => True) μ1
  | .adr p => ∃ l, μ1 p = some (.lst l) ∧ q l (fun μ => μ p = some (.lst l)) μ1
  | _ => False
def iSeqX (K : PySem.W.Frag) (tl : TE) : TI := fun σ H R => tl σ H fun x H1 => (∃ z, x = .str z ∧ R (Its z) H1) ∨ ∃ a, x = .ref a ∧ (((∃ xs, SqL K H1 a xs) ∧ R (Itl K a) H1) ∨ ((∃ xs, SqT K H1 a xs) ∧ R (Itt K a) H1))
theorem pi_seqX {X : Cx} {tg l : Expr} {tl : TE} (hl : PE X l tl) : PI X tg l (iSeqX X.K tl) := by
  constructor
  intro pins s σ H R I h
  refine thn (hl.run pins s σ H _ I h) ?_
  rintro v s1 ⟨x, H1, I1, r1, hq⟩
  have new := I1.hok.fresh (Nat.le_refl s1.heap.objs.size)
  have fp : ∀ b ∈ [s1.heap.objs.size], FpOk X pins H1 b := by
    intro b hb
    rw [List.mem_singleton.mp hb]
    exact I1.fpOk (Nat.le_refl _) new
  rcases hq with ⟨z, e, q⟩ | ⟨a, e, hq⟩
  · subst e
    obtain ⟨t, rfl⟩ := r1
    cases ha : z.cps.all (· < 128)
    · exact wpAny_pyIter_wide ha (pi_one (tk := s1.toks) I1 _ (turn_str _ z t "str_iterator" (.inr rfl)) ⟨_, Heap.get?_push_size _ rfl, rfl, rfl⟩ q)
    · exact wpAny_pyIter_ascii ha (pi_one (tk := s1.toks) I1 _ (turn_str _ z t "str_ascii_iterator" (.inl rfl)) ⟨_, Heap.get?_push_size _ rfl, rfl, rfl⟩ q)
  subst e
  cases r1
  rcases hq with ⟨⟨xs, hx⟩, q⟩ | ⟨⟨xs, hx⟩, q⟩
  · obtain ⟨its, _, pl, _⟩ := I1.list hx
    refine wpAny_pyIter_list pl.isList ?_
    exact ⟨s1.heap.objs.size, [s1.heap.objs.size], _, Itl X.K a, H1, rfl, I1.kept (t' := s1.toks) (fun _ _ z => Heap.get?_push_of_some _ z), turn_list a _, ⟨_, Heap.get?_push_size _ rfl, rfl, rfl⟩, fp, q⟩
  · obtain ⟨its, _, pl, _⟩ := I1.tuple hx
    refine wpAny_pyIter_tuple (items := its.toArray) pl ?_
    exact ⟨s1.heap.objs.size, [s1.heap.objs.size], _, Itt X.K a, H1, rfl, I1.kept (t' := s1.toks) (fun _ _ z => Heap.get?_push_of_some _ z), turn_tuple a _, ⟨_, Heap.get?_push_size _ rfl, rfl, rfl⟩, fp, q⟩
theorem di_sq {O : Org} {X : Cx} {tg e : Expr} {te : DTE} (he : DE O X e te) : DI O X tg e (diSq te) := pi_weak (pi_seqX he) fun σ H R ⟨F, δ, μ, q, hd, rs, t, k⟩ =>
  ⟨F, δ, μ, _, hd, rs, t, fun F1 H1 μ1 d v e1 hd1 r1 t1 => by
    cases d <;> first | exact False.elim t1 | skip
    · rename_i z
      exact .inl ⟨z, r1, k F1 H1 μ1 _ _ _ e1 hd1 (itok_str z) t1⟩
    · rename_i p
      obtain rfl : v = .ref p := r1
      obtain ⟨l, hm, t1⟩ := t1
      obtain ⟨_, vs, h1, h2⟩ := hd1.own p _ hm
      refine .inr ⟨p, rfl, .inl ⟨⟨vs, SqL.of h1⟩, k F1 H1 μ1 l _ _ e1 hd1 (itok_list h2 fun F2 H2 μ2 e2 hd2 k2 => ?_) t1⟩⟩
      obtain ⟨_, ws, h3, h4⟩ := hd2.own p _ k2
      exact .inr ⟨ws, SqL.of h3, h4⟩
    · obtain ⟨a, vs, rfl, h1, h2⟩ := r1
      exact .inr ⟨a, rfl, .inr ⟨⟨vs, h1.sq⟩, k F1 H1 μ1 _ _ _ e1 hd1 (itok_tup h2 h1) t1⟩⟩
    · obtain ⟨a, vs, rfl, h1, h2⟩ := r1
      exact .inr ⟨a, rfl, .inl ⟨⟨vs, SqL.of h1.2⟩, k F1 H1 μ1 _ _ _ e1 hd1 (itok_list h2 fun F2 H2 μ2 e2 hd2 k2 => .inl (SqL.of ((e2.hf h1.1).trans h1.2))) t1⟩⟩
    · obtain ⟨a, vs, rfl, h1, h2⟩ := r1
      exact .inr ⟨a, rfl, .inl ⟨⟨vs, h1.sq⟩, k F1 H1 μ1 _ _ _ e1 hd1 (itok_list h2 fun F2 H2 μ2 e2 hd2 k2 => .inl (h1.ext e2).sq) t1⟩⟩⟩
end DL

set_option Elab.async false
set_option linter.all false
set_option maxRecDepth 100000
/-! DW: list(range(a, b)) with ends of any size -/
namespace DL
open PySem L2 PySem.Spec PyProof.Rows
section
variable {prog : Program} {w : World} {A : Around} {E : Value → Shared → Prop} {s : Shared}
abbrev Fin2 (prog : Program) (w : World) (A : Around) (R : Result → Shared → Prop) : Fin → Shared → Prop := fun fin s' => match fin with
  | .done f => R (.ok f) s'
  | .again c' => c'.quiet = true ∧ codeAny (model prog w) A c' R s'
/-- what the filled list is -/
abbrev Filled (s : Shared) (S : Addr) (a c : Int) (n : Nat) (R : Result → Shared → Prop) (res : Value) : Prop :=
  ∀ h' tk acc' c', (∀ b o, b ≠ S → s.heap.get? b = some o → h'.get? b = some o) → h'.get? S = some { cls := .type "list", dict := none, data := .seq acc' c', slots := #[] } →
    ItemsOf (fun i v => ∃ t, v = .int (a + i * c) t) acc' n → R (.ok (.ret res)) { s with heap := h', toks := tk }
abbrev longObj (a b c : Int) : Obj := { cls := .type "longrange_iterator", data := .fields #[rawInt a, rawInt (Builtin.Range.rangeSize a b c), rawInt c] }
theorem extend_long {R : Result → Shared → Prop} {r : Addr} {a b c : Int} {t u v : Tok} {n : Nat} (hh : A.handled = none) (hr : IsRange s.heap r a b c t u v) (big : Builtin.Range.small a b c = false)
    (hn : Builtin.Range.rangeSize a b c = n) (hlen : n ≤ 2 ^ 24) (S : Addr) (res : Value) (c₀ : Nat) (hS : s.heap.get? S = some { cls := .type "list", data := .seq #[] c₀ }) (hR : Filled s S a c n R res) :
    wpAny (model prog w) A.in1 (Builtin.List.listExtendWith (.ref S) (.ref r) res) (Fin2 prog w A R) (fun e s' => R (.error e) s') s := by
  have ne : S ≠ r := fun e => by rw [e, hr] at hS; simp at hS
  have lt : S < s.heap.objs.size := Heap.lt_size hS
  have neI : S ≠ s.heap.objs.size := Nat.ne_of_lt lt
  have W := (Walks.longrange (prog := prog) (w := w) (A := A.in1) hh s.heap.objs.size a c n).toS
  have go : ∀ (h : Heap) (c₁ tk : Nat), IsLongIter h s.heap.objs.size (a + ((0 : Nat) : Int) * c) ((n : Int) - ((0 : Nat) : Int)) c → (∀ b o, b ≠ S → s.heap.get? b = some o → h.get? b = some o) →
      h.get? S = some { cls := .type "list", data := .seq #[] c₁ } → codeAny (model prog w) A (.builtin "list.extend.loop" ⟨[.ref S, .ref s.heap.objs.size, res], []⟩) R { s with heap := h, toks := tk } := by
    intro h c₁ tk it keep hS1
    refine codeAny_extend_loopS W (by rw [sizeLine_eq]; omega) S (fun z => neI (List.mem_singleton.mp z)) res n 0 _ #[] c₁ rfl (Nat.zero_le _) it hS1 (ItemsOf.nil _) fun s2 acc2 c2 mv hS2 its => ?_
    rw [Moved.eq_with mv]
    refine hR s2.heap s2.toks acc2 c2 (fun b o hb e => mv.heap b o (fun z => ?_) (keep b o hb e)) hS2 its
    rcases List.mem_cons.mp z with z | z
    · exact hb z
    · rw [List.mem_singleton.mp z] at e
      exact Nat.lt_irrefl _ (Heap.lt_size e)
  unfold Builtin.List.listExtendWith
  refine wpAny_bind (wpAny_typeOf (T := "range") ⟨_, hr, rfl⟩ ?_)
  simp only [show Builtin.List.listSameRef (.ref S) (.ref r) = false by simp [Builtin.List.listSameRef, ne], show (Value.type "range" == Value.type "list") = false by decide, show (Value.type "range" == Value.type "tuple") = false by decide, Bool.or_false, Bool.false_eq_true, if_false]
  refine wpAny_bind (wpAny_pyIter_longrange hr big ?_)
  refine wpAny_bind (wpAny_holding (wpAny_hint_range (n := n) (Heap.get?_push_of_some _ hr) hn hlen ?_))
  have it1 : IsLongIter (s.heap.push (longObj a b c)) s.heap.objs.size (a + ((0 : Nat) : Int) * c) ((n : Int) - ((0 : Nat) : Int)) c := by
    show IsLongIter _ _ _ _ _
    rw [← hn]; simpa using Heap.get?_push_size _ rfl
  have hS1 := Heap.get?_push_of_some (longObj a b c) hS
  refine wpAny_ite_split (fun _ => ?_) (fun _ => wpAny_pure ⟨plainId_quiet F.plain_extend_loop _, go _ c₀ _ it1 (fun b o _ e => Heap.get?_push_of_some _ e) hS1⟩)
  refine wpAny_bind (wpAny_rule (wpAny_bind ?_))
  show wpAny _ _ (updateSeq S (·.push .none) >>= fun _ => updateSeq S (·.pop)) _ _ _
  refine wpAny_bind (wpAny_updateSeq hS1 rfl ?_)
  have hS2 := Heap.get?_update_self (Obj.mapSeq (·.push Value.none)) hS1 rfl
  refine wpAny_updateSeq (hz := by seq_fits) hS2 rfl ?_
  have hS3 := Heap.get?_update_self (Obj.mapSeq (·.pop)) hS2 rfl
  refine wpAny_pure ⟨plainId_quiet F.plain_extend_loop _, go _ _ _ ?_ (fun b o hb e => ?_) hS3⟩
  · rw [IsLongIter, Heap.get?_update_other _ _ neI, Heap.get?_update_other _ _ neI]; exact it1
  · rw [Heap.get?_update_other _ _ (Ne.symm hb), Heap.get?_update_other _ _ (Ne.symm hb)]; exact Heap.get?_push_of_some _ e
theorem list_long {Q : Value → Shared → Prop} {r : Addr} {a b c : Int} {t u v : Tok} {n : Nat} (hh : A.handled = none) (hr : IsRange s.heap r a b c t u v) (big : Builtin.Range.small a b c = false)
    (hn : Builtin.Range.rangeSize a b c = n) (hlen : n ≤ 2 ^ 24)
    (hQ : ∀ h' tk acc' c', (∀ b o, s.heap.get? b = some o → h'.get? b = some o) →
      h'.get? s.heap.objs.size = some { cls := .type "list", dict := none, data := .seq acc' c', slots := #[] } → ItemsOf (fun i v => ∃ t, v = .int (a + i * c) t) acc' n → Q (.ref s.heap.objs.size) { s with heap := h', toks := tk }) :
    wpAny (model prog w) A (call (.type "list") [.ref r]) Q E s := by
  refine callType_codes (Q₁ := fun obj s₁ => obj = .ref s.heap.objs.size ∧ s₁ = { s with heap := s.heap.push { cls := .type "list", data := .seq #[] } }) F.called_list (F.typeCall_list_1 _) F.entry_list_init
    (code_list_new _ ⟨rfl, rfl⟩) fun obj s₁ ⟨e1, e2⟩ => ?_
  subst e1 e2
  have hS : (s.heap.push { cls := .type "list", data := .seq #[] }).get? s.heap.objs.size = some { cls := .type "list", data := .seq #[] } := Heap.get?_push_size _ rfl
  have hr1 : IsRange (s.heap.push { cls := .type "list", data := .seq #[] }) r a b c t u v := Heap.get?_push_of_some _ hr
  have ne : s.heap.objs.size ≠ r := Nat.ne_of_gt (Heap.lt_size hr)
  refine ⟨⟨_, hS, rfl⟩, F.args_list_init_2 _ _, ?_⟩
  show wpAny _ _ (do let old ← Builtin.List.listItems (.ref s.heap.objs.size); Builtin.List.listUpdate (.ref s.heap.objs.size) (fun _ => #[]); letGo old.toList.reverse; Builtin.List.listExtendWith (.ref s.heap.objs.size) (.ref r) .none) _ _ _
  refine wpAny_bind ?_
  unfold Builtin.List.listItems
  refine wpAny_bind (wpAny_seqItems hS rfl (wpAny_pure ?_))
  show wpAny _ _ (updateSeq s.heap.objs.size (fun _ => #[]) >>= fun _ => letGo (#[] : Array Value).toList.reverse >>= fun _ => Builtin.List.listExtendWith (.ref s.heap.objs.size) (.ref r) .none) _ _ _
  refine wpAny_bind (wpAny_updateSeq hS rfl ?_)
  have hS2 := Heap.get?_update_self (Obj.mapSeq (fun _ => (#[] : Array Value))) hS rfl
  refine wpAny_bind (wpAny_letGo ?_)
  refine extend_long (A := A.in1) hh ((Heap.get?_update_other _ _ ne).trans hr1) big hn hlen _ .none _ hS2 fun h' tk acc' c' hk hS' its => ?_
  exact ⟨rfl, hQ h' tk acc' c' (fun b o e => hk b o (Nat.ne_of_lt (Heap.lt_size e)) ((Heap.get?_update_other _ _ (Nat.ne_of_gt (Heap.lt_size e))).trans (Heap.get?_push_of_some _ e))) hS' its⟩
end
section
variable {O : Org} {X : Cx} {a b e : Expr} {ta tb : DTE} {p p2 pos pos2 : Pos} {te : L2.St → Hp → (Int → Int → Hp → Prop) → Prop}
def tLstRgW (te : L2.St → Hp → (Int → Int → Hp → Prop) → Prop) : TE := fun σ H Q => te σ H fun a b H1 => (b - a).toNat ≤ 2 ^ 24 ∧ ∀ q, H1 q = none → Q (.ref q) (upd H1 q (.lst (rgV a b)))
theorem pe_listRgW (hc : X.calm = true) (hg : Gl X "list") (hm : X.mg "list" = none) (he : PRg X e te) (na : starEach [e] X.env = (false, eval e X.env) :: starEach [] X.env) : PE X (.Call (.Name "list" p) [e] [] pos) (tLstRgW te) := by
  refine ⟨fun pins s σ H Q I h => ?_⟩
  refine Call_ (ld_blt I hg hm boot_list (PyProof.Rows.callWith_type1 (args_cons (thn (he pins s σ H _ I h) fun x s1 ⟨r, a, b, t, u, v, H1, ex, hr, I1, ok, q⟩ => args_nil ?_) na) na))
  subst ex
  have fin : ∀ h' tk (acc : Array Value) c', (∀ b o, s1.heap.get? b = some o → h'.get? b = some o) → h'.get? s1.heap.objs.size = some { cls := .type "list", dict := none, data := .seq acc c', slots := #[] } →
      ItemsOf (fun i v => ∃ t, v = .int (a + i * 1) t) acc (b - a).toNat → EP X pins σ Q (.ref s1.heap.objs.size) { s1 with heap := h', toks := tk } := fun h' tk acc c' hk e' hi => by
    refine ⟨.ref s1.heap.objs.size, upd H1 s1.heap.objs.size (.lst (rgV a b)), I1.laid hk (Nat.le_refl _) (show ObjOk X.prog X.w _ _ _ (.lst (rgV a b)) from ⟨?_, acc.toList, c', vals_rg hi, ?_⟩), rfl, q _ (I1.hok.fresh (Nat.le_refl _))⟩
    · rw [rgV_length, sizeLine_eq]; omega
    · rw [Array.toArray_toList]; exact e'
  cases hs : Builtin.Range.small a b 1 with
  | true => exact call_list_range (n := (b - a).toNat) (I1.ok.hd hc) hr hs (rangeSize_nat a b) ok fin
  | false => exact list_long (n := (b - a).toNat) (I1.ok.hd hc) hr hs (rangeSize_nat a b) ok fin
/-- list(range(a, b)) -/
def dLstRw (ta tb : DTE) : DTE := fun δ μ q => ta δ μ fun x μ1 => tb δ μ1 fun y μ2 => match x, y with
  | .int i, .int j => (j - i).toNat ≤ 2 ^ 24 ∧ q (.lst (intsD i (j - i).toNat)) μ2
  | _, _ => False
def dLstRwM (ta tb : DTE) : DTE := fun δ μ q => ta δ μ fun x μ1 => tb δ μ1 fun y μ2 => match x, y with
  | .int i, .int j => (j - i).toNat ≤ 2 ^ 24 ∧ ∀ p, μ2 p = none → q (.adr p) (updM μ2 p (.lst (intsD i (j - i).toNat)))
  | _, _ => False
theorem de_listRw2 (hc : X.calm = true) (hl : Gl X "list") (hml : X.mg "list" = none) (hg : Gl X "range") (hm : X.mg "range" = none) (ha : DE O X a ta) (hb : DE O X b tb)
    (na : starEach [a, b] X.env = (false, eval a X.env) :: starEach [b] X.env := by rfl) (nb : starEach [b] X.env = (false, eval b X.env) :: starEach [] X.env := by rfl) (hp : (backTo pos2 (starEach [b] X.env)).any (·.1) = false := by rfl)
    (ne : starEach [Expr.Call (.Name "range" p2) [a, b] [] pos2] X.env = (false, eval (.Call (.Name "range" p2) [a, b] [] pos2) X.env) :: starEach [] X.env := by rfl) :
    DE O X (.Call (.Name "list" p) [.Call (.Name "range" p2) [a, b] [] pos2] [] pos) (dLstRw ta tb) :=
  pe_weak (pe_listRgW hc hl hml (prg_2 hg hm ha hb na nb hp) ne) fun σ H Q ⟨F, δ, μ, q, hd, rs, t, k⟩ =>
  ⟨F, δ, μ, _, hd, rs, t, fun F1 H1 μ1 x v e1 hd1 r1 t1 => ⟨F1, δ, μ1, _, hd1, rs.ext e1, t1, fun F2 H2 μ2 y u e2 hd2 r2 t2 => by
    have r1 := r1.ext e2
    match x, y, t2, r1, r2 with
    | .int i, .int j, ⟨ok, t2⟩, r1, r2 =>
    obtain rfl : v = .int i := r1
    obtain rfl : u = .int j := r2
    exact ⟨i, j, rfl, rfl, ok, fun q hq => k _ _ μ2 (.lst _) (.ref q) ((e1.trans e2).trans (ext_newF hd2 hq)) (hd2.newF hq) ⟨q, _, rfl, ⟨.inr rfl, upd_same⟩, rg_rep i j⟩ t2⟩⟩⟩
theorem de_listRw2M (hc : X.calm = true) (hl : Gl X "list") (hml : X.mg "list" = none) (hg : Gl X "range") (hm : X.mg "range" = none) (ha : DE O X a ta) (hb : DE O X b tb)
    (na : starEach [a, b] X.env = (false, eval a X.env) :: starEach [b] X.env := by rfl) (nb : starEach [b] X.env = (false, eval b X.env) :: starEach [] X.env := by rfl) (hp : (backTo pos2 (starEach [b] X.env)).any (·.1) = false := by rfl)
    (ne : starEach [Expr.Call (.Name "range" p2) [a, b] [] pos2] X.env = (false, eval (.Call (.Name "range" p2) [a, b] [] pos2) X.env) :: starEach [] X.env := by rfl) :
    DE O X (.Call (.Name "list" p) [.Call (.Name "range" p2) [a, b] [] pos2] [] pos) (dLstRwM ta tb) :=
  pe_weak (pe_listRgW hc hl hml (prg_2 hg hm ha hb na nb hp) ne) fun σ H Q ⟨F, δ, μ, q, hd, rs, t, k⟩ =>
  ⟨F, δ, μ, _, hd, rs, t, fun F1 H1 μ1 x v e1 hd1 r1 t1 => ⟨F1, δ, μ1, _, hd1, rs.ext e1, t1, fun F2 H2 μ2 y u e2 hd2 r2 t2 => by
    have r1 := r1.ext e2
    match x, y, t2, r1, r2 with
    | .int i, .int j, ⟨ok, t2⟩, r1, r2 =>
    obtain rfl : v = .int i := r1
    obtain rfl : u = .int j := r2
    exact ⟨i, j, rfl, rfl, ok, fun q hq => k _ _ _ (.adr q) (.ref q) ((e1.trans e2).trans (ext_new hd2 hq)) (hd2.newM (m := .lst _) hq ⟨_, upd_same, rg_rep i j⟩) rfl (t2 q (hd2.free hq))⟩⟩⟩
end
end DL

set_option Elab.async false
set_option linter.all false
set_option maxRecDepth 100000
set_option maxHeartbeats 2000000
/-! DM: max, min, sorted of a list of integers -/
namespace DL
open PySem L2
variable {K : PySem.W.Frag}
/-- max(l), min(l): the greatest, the least; there is one -/
def rMaxLD : DC2 := fun ds μ q => match ds with | [d] => ∃ ns : List Int, lstOf μ d = some (ns.map D.int) ∧ 0 < ns.length ∧ ∀ m, m ∈ ns → (∀ y, y ∈ ns → y ≤ m) → q (.int m) μ | _ => False
def rMinLD : DC2 := fun ds μ q => match ds with | [d] => ∃ ns : List Int, lstOf μ d = some (ns.map D.int) ∧ 0 < ns.length ∧ ∀ m, m ∈ ns → (∀ y, y ∈ ns → m ≤ y) → q (.int m) μ | _ => False
/-- sorted(l), not written again -/
def rSortID : DC2 := fun ds μ q => match ds with | [d] => ∃ ns : List Int, lstOf μ d = some (ns.map D.int) ∧ ∀ ms : List Int, ms.Perm ns → ms.Pairwise (· ≤ ·) → q (.lst (ms.map D.int)) μ | _ => False
theorem cd_maxL : CallD K (rMax K) rMaxLD := by
  intro O F H μ ds vs q Q hd rs t k
  unfold rMaxLD at t
  split at t
  · rename_i d
    obtain ⟨v, rfl, h1⟩ := repL1 rs
    obtain ⟨ns, e, t0, t⟩ := t
    obtain ⟨a, us, rfl, h2, h3⟩ := list_sq hd h1 e
    obtain rfl := h3.ints
    exact ⟨a, ns, rfl, h2, t0, fun m hm hy => k F H μ _ _ (Ext.refl F H) hd rep_int (t m hm hy)⟩
  · exact t.elim
theorem cd_minL : CallD K (rMin K) rMinLD := by
  intro O F H μ ds vs q Q hd rs t k
  unfold rMinLD at t
  split at t
  · rename_i d
    obtain ⟨v, rfl, h1⟩ := repL1 rs
    obtain ⟨ns, e, t0, t⟩ := t
    obtain ⟨a, us, rfl, h2, h3⟩ := list_sq hd h1 e
    obtain rfl := h3.ints
    exact ⟨a, ns, rfl, h2, t0, fun m hm hy => k F H μ _ _ (Ext.refl F H) hd rep_int (t m hm hy)⟩
  · exact t.elim
theorem cd_sortedI : CallD K (rSortedI K) rSortID := by
  intro O F H μ ds vs q Q hd rs t k
  unfold rSortID at t
  split at t
  · rename_i d
    obtain ⟨v, rfl, h1⟩ := repL1 rs
    obtain ⟨ns, e, t⟩ := t
    obtain ⟨a, us, rfl, h2, h3⟩ := list_sq hd h1 e
    obtain rfl := h3.ints
    exact ⟨a, ns, rfl, h2, fun ms p hp hs hn => k _ _ μ (.lst (ms.map D.int)) (.ref p) (ext_newF hd hn) (hd.newF hn) ⟨p, _, rfl, ⟨.inr rfl, upd_same⟩, RepL.of_ints ms⟩ (t ms hp hs)⟩
  · exact t.elim
end DL

set_option Elab.async false
set_option linter.all false
set_option maxRecDepth 100000
set_option maxHeartbeats 2000000
/-! DD: dicts that are written, with whole numbers and texts as keys -/
namespace DL
open PySem L2
def keyD : D → Option Key
  | .int i => some (.inl i)
  | .str x => some (.inr x)
  | _ => none
def valD (kvs : List (Key × D)) (k : Key) : Option D := (kvs.find? fun kv => decide (kv.1 = k)).map (·.2)
def putKD (kvs : List (Key × D)) (k : Key) (d : D) : List (Key × D) :=
  if (kvs.any fun kv => decide (kv.1 = k)) = true then kvs.map (fun kv => if kv.1 = k then (kv.1, d) else kv) else kvs ++ [(k, d)]
section
variable {O : Org} {K : PySem.W.Frag} {F : Zo} {H : Hp}
theorem rep_key {d : D} {k : Key} {v : V} (h : keyD d = some k) (r : Rep K F H d v) : v = kV k := by
  cases d <;> first | (simp [keyD] at h; done) | skip
  · obtain rfl := Option.some.inj h
    exact r
  · obtain rfl := Option.some.inj h
    exact r
theorem val_rep {k : Key} : ∀ {kvs : List (Key × D)} {vs : List V}, RepL K F H (kvs.map (·.2)) vs →
    (∀ d, valD kvs k = some d → ∃ v, valV ((kvs.map (·.1)).zip vs) k = some v ∧ Rep K F H d v) ∧ (valD kvs k = none → valV ((kvs.map (·.1)).zip vs) k = none) ∧
    ((kvs.map (·.1)).zip vs).any (fun kv => decide (kv.1 = k)) = kvs.any fun kv => decide (kv.1 = k)
  | [], vs, r => by
    obtain rfl : vs = [] := r
    exact ⟨fun d h => by simp [valD] at h, fun _ => rfl, rfl⟩
  | (j, x) :: kvs, vs, ⟨v, r, e, h2, h3⟩ => by
    subst e
    obtain ⟨i1, i2, i3⟩ := val_rep (k := k) h3
    by_cases z : j = k
    · subst z
      refine ⟨fun d h => ?_, fun h => ?_, ?_⟩
      · have h : x = d := by simpa [valD] using h
        subst h
        exact ⟨v, by simp [valV], h2⟩
      · simp [valD] at h
      · simp
    · refine ⟨fun d h => ?_, fun h => ?_, ?_⟩
      · obtain ⟨w, a, b⟩ := i1 d (by simpa [valD, List.find?_cons, z] using h)
        exact ⟨w, by simpa [valV, List.find?_cons, z] using a, b⟩
      · have := i2 (by simpa [valD, List.find?_cons, z] using h)
        simpa [valV, List.find?_cons, z] using this
      · simp only [List.map_cons, List.zip_cons_cons, List.any_cons, decide_eq_false z, Bool.false_or]
        exact i3
theorem map_rep {k : Key} {d : D} {v : V} (rd : Rep K F H d v) : ∀ {kvs : List (Key × D)} {vs : List V}, RepL K F H (kvs.map (·.2)) vs →
    ∃ vs', ((kvs.map (·.1)).zip vs).map (fun kv => if kv.1 = k then (kv.1, v) else kv) = ((kvs.map (fun kv => if kv.1 = k then (kv.1, d) else kv)).map (·.1)).zip vs' ∧ RepL K F H ((kvs.map (fun kv => if kv.1 = k then (kv.1, d) else kv)).map (·.2)) vs'
  | [], vs, r => by
    obtain rfl : vs = [] := r
    exact ⟨[], rfl, rfl⟩
  | (j, x) :: kvs, vs, ⟨u, r, e, h2, h3⟩ => by
    subst e
    obtain ⟨vs', e1, e2⟩ := map_rep (k := k) rd h3
    by_cases z : j = k
    · subst z
      refine ⟨v :: vs', ?_, ?_⟩
      · simp only [List.map_cons, List.zip_cons_cons, if_true]
        rw [e1]
      · simp only [List.map_cons, if_true]
        exact .cons rd e2
    · refine ⟨u :: vs', ?_, ?_⟩
      · simp only [List.map_cons, List.zip_cons_cons, if_neg z]
        rw [e1]
      · simp only [List.map_cons, if_neg z]
        exact .cons h2 e2
theorem put_rep {k : Key} {d : D} {v : V} {kvs : List (Key × D)} {vs : List V} (rd : Rep K F H d v) (r : RepL K F H (kvs.map (·.2)) vs) :
    ∃ vs', putK ((kvs.map (·.1)).zip vs) k v = ((putKD kvs k d).map (·.1)).zip vs' ∧ RepL K F H ((putKD kvs k d).map (·.2)) vs' := by
  have h := (val_rep (k := k) r).2.2
  unfold putK putKD
  rw [h]
  by_cases z : (kvs.any fun kv => decide (kv.1 = k)) = true
  · rw [if_pos z, if_pos z]
    exact map_rep rd r
  · rw [if_neg z, if_neg z]
    refine ⟨vs ++ [v], ?_, ?_⟩
    · rw [List.map_append, List.zip_append (by rw [List.length_map, ← r.length, List.length_map])]; rfl
    · rw [List.map_append]
      exact r.append (.cons rd RepL.nil)
end
/-! ### {}, d[k], d.get(k, x), d[k] = v -/
def dDicN : DTE := fun _ μ q => ∀ p, μ p = none → q (.adr p) (updM μ p (.dic []))
/-- a dict, to be written or locked -/
def isDic (μ : Mu) (p : Addr) (kvs : List (Key × D)) : Prop := μ p = some (.dic kvs) ∨ ∃ u, μ p = some (.dkl u kvs)
theorem isDic.rd {O : Org} {K : PySem.W.Frag} {F : Zo} {H : Hp} {μ : Mu} {p : Addr} {kvs : List (Key × D)} (h : isDic μ p kvs) (hd : Hd K O F H μ) : ∃ vs, Rd H p (.dK ((kvs.map (·.1)).zip vs)) ∧ RepL K F H (kvs.map (·.2)) vs := by
  rcases h with h | ⟨u, h⟩
  · obtain ⟨_, vs, h1, h2⟩ := hd.own p _ h
    exact ⟨vs, .inl h1, h2⟩
  · obtain ⟨_, o, vs, h1, rfl, h2⟩ := hd.own p _ h
    exact ⟨vs, .inr ⟨o, h1⟩, h2⟩
def dDGet (to ti : DTE) : DTE := fun δ μ q => to δ μ fun x μ1 => ti δ μ1 fun y μ2 => match x, keyD y with
  | .adr p, some k => ∃ kvs d, isDic μ2 p kvs ∧ valD kvs k = some d ∧ q d μ2
  | _, _ => False
def dDGet2 (to ti tx : DTE) : DTE := fun δ μ q => to δ μ fun x μ1 => match x with
  | .adr p => (∃ kvs, isDic μ1 p kvs) ∧ ti δ μ1 fun y μ2 => tx δ μ2 fun z μ3 => ∃ k kvs, keyD y = some k ∧ isDic μ3 p kvs ∧ q ((valD kvs k).getD z) μ3
  | _ => False
def dsDPut (to ti tv : DTE) : DTS := fun E δ μ => tv δ μ fun v μ1 => to δ μ1 fun x μ2 => ti δ μ2 fun y μ3 => match x, keyD y with
  | .adr p, some k => ∃ kvs, μ3 p = some (.dic kvs) ∧ kvs.length < sizeLine ∧ E.nx δ (updM μ3 p (.dic (putKD kvs k v)))
  | _, _ => False
section
variable {O : Org} {X : Cx} {o i f value : Expr} {to ti tx tv : DTE} {pos pos' apos cpos : Pos}
theorem de_dicN : DE O X (.Dict [] [] pos) dDicN := pe_weak pe_dnewK fun σ H Q ⟨F, δ, μ, q, hd, rs, t, k⟩ => fun p hp =>
  k _ _ _ (.adr p) (.ref p) (ext_new hd hp) (hd.newM (m := .dic []) hp ⟨[], upd_same, RepL.nil⟩) rfl (t p (hd.free hp))
theorem de_dget (hu : X.A.units + 1 < cLine) (ho : DE O X o to) (hi : DE O X i ti) (hs : NoSl i := by intro _ _; rfl) : DE O X (.Subscript o i pos) (dDGet to ti) :=
  pe_weak (pe_dget hu ho hi hs) fun σ H Q ⟨F, δ, μ, q, hd, rs, t, k⟩ => ⟨F, δ, μ, _, hd, rs, t, fun F1 H1 μ1 x v e1 hd1 r1 t1 => ⟨F1, δ, μ1, _, hd1, rs.ext e1, t1, fun F2 H2 μ2 y u e2 hd2 r2 t2 => by
    cases x <;> first | exact False.elim t2 | skip
    rename_i p
    obtain rfl : v = .ref p := r1
    cases hk : keyD y with
    | none => rw [hk] at t2; exact False.elim t2
    | some key =>
      rw [hk] at t2
      obtain ⟨kvs, d, hm, hv, t2⟩ := t2
      obtain ⟨vs, h1, h2⟩ := hm.rd hd2
      obtain ⟨w, h3, h4⟩ := (val_rep (k := key) h2).1 d hv
      obtain rfl := rep_key hk r2
      exact ⟨p, w, rfl, .inl ⟨_, key, h1, rfl, h3.symm⟩, k F2 H2 μ2 d w (e1.trans e2) hd2 h4 t2⟩⟩⟩
theorem de_dget2 (hu : X.A.units + 1 < cLine) (ho : DE O X o to) (hi : DE O X i ti) (hx : DE O X f tx) (m : M2 X o "get" apos i f cpos := by first | exact ⟨rfl, rfl, rfl, rfl⟩ | exact ⟨by rfl, by decide, by rfl, by rfl⟩) :
    DE O X (.Call (.Attribute o "get" apos) [i, f] [] cpos) (dDGet2 to ti tx) :=
  pe_weak (pe_dget2 hu ho hi hx m) fun σ H Q ⟨F, δ, μ, q, hd, rs, t, k⟩ => ⟨F, δ, μ, _, hd, rs, t, fun F1 H1 μ1 x v e1 hd1 r1 t1 => by
    cases x <;> first | exact False.elim t1 | skip
    rename_i p
    obtain rfl : v = .ref p := r1
    obtain ⟨⟨kv0, hm0⟩, t1⟩ := t1
    obtain ⟨vs0, g1, g2⟩ := hm0.rd hd1
    refine ⟨p, rfl, .inl ⟨_, g1⟩, F1, δ, μ1, _, hd1, rs.ext e1, t1, fun F2 H2 μ2 y u e2 hd2 r2 t2 => ⟨F2, δ, μ2, _, hd2, (rs.ext e1).ext e2, t2, fun F3 H3 μ3 z w e3 hd3 r3 t3 => ?_⟩⟩
    obtain ⟨key, kvs, hk, hm, t3⟩ := t3
    obtain ⟨vs, h1, h2⟩ := hm.rd hd3
    obtain rfl := rep_key hk r2
    obtain ⟨i1, i2, _⟩ := val_rep (k := key) h2
    refine ⟨_, .inl ⟨_, key, h1, rfl, rfl⟩, ?_⟩
    have E := (e1.trans e2).trans e3
    cases hv : valD kvs key with
    | none =>
      rw [hv] at t3
      rw [i2 hv]
      exact k F3 H3 μ3 z w E hd3 r3 t3
    | some d =>
      rw [hv] at t3
      obtain ⟨x, a, b⟩ := i1 d hv
      rw [a]
      exact k F3 H3 μ3 d x E hd3 b t3⟩
theorem ds_dput (hu : X.A.units + 1 < cLine) (ho : DE O X o to) (hi : DE O X i ti) (hv : DE O X value tv) (hs : swapsWith value (some (.Subscript o i pos')) pos.line X.env = pure false := by rfl) :
    DSt O X (.Assign [.Subscript o i pos'] value pos) (dsDPut to ti tv) :=
  ps_weak (ps_dput hu ho hi hv hs) fun Z σ H ⟨F, δ, μ, E, hd, rs, t, L⟩ => ⟨F, δ, μ, _, hd, rs, t, fun F1 H1 μ1 d r e1 hd1 r1 t1 => ⟨F1, δ, μ1, _, hd1, rs.ext e1, t1, fun F2 H2 μ2 x v e2 hd2 r2 t2 => ⟨F2, δ, μ2, _, hd2, (rs.ext e1).ext e2, t2, fun F3 H3 μ3 y u e3 hd3 r3 t3 => by
    cases x <;> first | exact False.elim t3 | skip
    rename_i p
    obtain rfl : v = .ref p := r2
    cases hk : keyD y with
    | none => rw [hk] at t3; exact False.elim t3
    | some key =>
      rw [hk] at t3
      obtain ⟨kvs, hm, hl, t3⟩ := t3
      obtain ⟨_, vs, h1, h2⟩ := hd3.own p _ hm
      obtain rfl := rep_key hk r3
      have ll : ((kvs.map (·.1)).zip vs).length < sizeLine := by
        have := h2.length
        rw [List.length_map] at this
        rw [List.length_zip, List.length_map]; omega
      have ex := ext_set (o := HO.dK (putK ((kvs.map (·.1)).zip vs) key r)) hd3 hm
      obtain ⟨vs', p1, p2⟩ := put_rep (k := key) (((r1.ext e2).ext e3).ext ex) (h2.ext ex)
      refine ⟨p, _, rfl, DPut.k h1 ll, ?_⟩
      exact L.nx F3 _ _ δ σ (((e1.trans e2).trans e3).trans ex) (hd3.set (m' := .dic (putKD kvs key d)) hm ⟨vs', by rw [upd_same, p1], p2⟩) ((((rs.ext e1).ext e2).ext e3).ext ex) t3⟩⟩⟩
end
end DL

set_option Elab.async false
set_option linter.all false
set_option maxRecDepth 100000
set_option maxHeartbeats 2000000
/-! DZ: zip of two lists that stand -/
namespace DL
open PySem L2
def zipD (l m : List D) : List D := List.zipWith (fun x y => D.tup [x, y]) l m
theorem zipD_len (l m : List D) : (zipD l m).length = min l.length m.length := by simp [zipD]
theorem zipD_get {l m : List D} {i : Nat} {x y : D} (h : l[i]? = some x) (k : m[i]? = some y) : (zipD l m)[i]? = some (.tup [x, y]) := by
  simp [zipD, List.getElem?_zipWith, h, k]
section
variable {O : Org} {K : PySem.W.Frag} {F : Zo} {H : Hp}
theorem itok_zip {l m : List D} {a b : Addr} {vs ws : List V} (hl : RepL K F H l vs) (hm : RepL K F H m ws)
    (st : ∀ F2 H2 μ2, Ext F H F2 H2 → Hd K O F2 H2 μ2 → SqL K H2 a vs ∧ SqL K H2 b ws) : ItOk K O F H (zipD l m) (fun _ => True) (Itz K a b) := by
  have h1 := hl.length
  have h2 := hm.length
  refine ⟨fun i F2 H2 μ2 e hd _ h => ?_, fun i F2 H2 μ2 x H3 e hd _ h hy => ?_, fun i F2 H2 μ2 e hd _ h => ?_⟩
  · rw [zipD_len] at h
    obtain ⟨s1, s2⟩ := st F2 H2 μ2 e hd
    have g1 : i < vs.length := by omega
    have g2 : i < ws.length := by omega
    exact ⟨vs, ws, vs[i], ws[i], s1, s2, by simp [g1], by simp [g2]⟩
  · rw [zipD_len] at h
    obtain ⟨T, y, z, rfl, hT, rfl, hx, hz⟩ := hy
    obtain ⟨s1, s2⟩ := st F2 H2 μ2 e hd
    obtain ⟨d, e1, e2⟩ := (hl.ext e).get' (hx vs s1)
    obtain ⟨d', e3, e4⟩ := (hm.ext e).get' (hz ws s2)
    exact ⟨_, .tup [d, d'], ext_newF hd hT, hd.newF hT, zipD_get e1 e3, ⟨T, _, rfl, .inl ⟨.inr rfl, .inl upd_same⟩, .cons (e2.ext (ext_newF hd hT)) (.cons (e4.ext (ext_newF hd hT)) RepL.nil)⟩⟩
  · rw [zipD_len] at h
    obtain ⟨s1, s2⟩ := st F2 H2 μ2 e hd
    exact ⟨vs, ws, s1, s2, by omega⟩
end
/-- a list that stands -/
def frzL : D → Option (List D)
  | .lst l => some l
  | .rol l => some l
  | _ => none
theorem frz_sq {O : Org} {K : PySem.W.Frag} {F : Zo} {H : Hp} {d : D} {l : List D} {v : V} (h : frzL d = some l) (r : Rep K F H d v) :
    ∃ a us, v = .ref a ∧ SqL K H a us ∧ RepL K F H l us ∧ ∀ F2 H2, Ext F H F2 H2 → SqL K H2 a us := by
  cases d <;> first | (simp [frzL] at h; done) | skip
  · obtain rfl := Option.some.inj h
    obtain ⟨a, us, rfl, h2, h3⟩ := r
    exact ⟨a, us, rfl, SqL.of h2.2, h3, fun F2 H2 e => SqL.of ((e.hf h2.1).trans h2.2)⟩
  · obtain rfl := Option.some.inj h
    obtain ⟨a, us, rfl, h2, h3⟩ := r
    exact ⟨a, us, rfl, h2.sq, h3, fun F2 H2 e => (h2.ext e).sq⟩
def diZip (te : DTA) : DTI := fun δ μ q => te δ μ fun ds μ1 => match ds with
  | [x, y] => ∃ l m, frzL x = some l ∧ frzL y = some m ∧ q (zipD l m) (fun _ => True) μ1
  | _ => False
section
variable {O : Org} {X : Cx} {e e2 : Expr} {t : DTA} {pos p tpos : Pos} {elts : List Expr} {kk : Nat}
theorem di_zip (hg : Gl X "zip") (hm : X.mg "zip" = none) (ha : DA O X [e, e2] t)
    (hs : starEach [e, e2] X.env = (false, eval e X.env) :: starEach [e2] X.env := by rfl) (hpl : (backTo pos (starEach [e2] X.env)).any (·.1) = false := by rfl) :
    DI O X (.Tuple elts kk tpos) (.Call (.Name "zip" p) [e, e2] [] pos) (diZip t) :=
  pi_weak (pi_zip hg hm ha hs hpl) fun σ H R ⟨F, δ, μ, q, hd, rs, t, k⟩ => ⟨F, δ, μ, _, hd, rs, t, fun F1 H1 μ1 ds vs e1 hd1 r1 t1 => by
    unfold diZip at *
    match ds, t1, r1 with
    | [x, y], t1, r1 =>
      obtain ⟨u, v, rfl, h1, h2⟩ := repL2 r1
      obtain ⟨l, m, f1, f2, t1⟩ := t1
      obtain ⟨a, us, rfl, s1, r3, k1⟩ := frz_sq (O := O) f1 h1
      obtain ⟨b, ws, rfl, s2, r4, k2⟩ := frz_sq (O := O) f2 h2
      exact ⟨a, b, us, ws, rfl, s1, s2, k F1 H1 μ1 _ _ _ e1 hd1 (itok_zip r3 r4 fun F2 H2 μ2 e2 hd2 => ⟨k1 F2 H2 e2, k2 F2 H2 e2⟩) t1⟩⟩
end
theorem Ctx.u1 {O : Org} {X : Cx} {k : Nat} {e : DX} (C : Ctx O X k e) : X.A.units + 1 < cLine := by have := C.room.un; omega
/-! list(range(n)) -/
def dLstR1 (ta : DTE) : DTE := fun δ μ q => ta δ μ fun x μ1 => match x with
  | .int j => j.toNat ≤ 2 ^ 24 ∧ q (.lst (intsD 0 j.toNat)) μ1
  | _ => False
section
variable {O : Org} {X : Cx} {a : Expr} {ta : DTE} {p p2 pos pos2 : Pos}
theorem de_listRw1 (hc : X.calm = true) (hl : Gl X "list") (hml : X.mg "list" = none) (hg : Gl X "range") (hm : X.mg "range" = none) (ha : DE O X a ta)
    (na : starEach [a] X.env = (false, eval a X.env) :: starEach [] X.env := by rfl)
    (ne : starEach [Expr.Call (.Name "range" p2) [a] [] pos2] X.env = (false, eval (.Call (.Name "range" p2) [a] [] pos2) X.env) :: starEach [] X.env := by rfl) :
    DE O X (.Call (.Name "list" p) [.Call (.Name "range" p2) [a] [] pos2] [] pos) (dLstR1 ta) :=
  pe_weak (pe_listRgW hc hl hml (prg_1 hg hm ha na) ne) fun σ H Q ⟨F, δ, μ, q, hd, rs, t, k⟩ =>
  ⟨F, δ, μ, _, hd, rs, t, fun F1 H1 μ1 x v e1 hd1 r1 t1 => by
    unfold dLstR1 at *
    match x, t1, r1 with
    | .int j, ⟨ok, t1⟩, r1 =>
    obtain rfl : v = .int j := r1
    have e0 : (j - 0).toNat = j.toNat := by rw [Int.sub_zero]
    refine ⟨j, rfl, by rw [e0]; exact ok, fun q hq => k _ _ μ1 (.lst (intsD 0 j.toNat)) (.ref q) (e1.trans (ext_newF hd1 hq)) (hd1.newF hq) ⟨q, _, rfl, ⟨.inr rfl, upd_same⟩, ?_⟩ t1⟩
    have := rg_rep (K := X.K) (F := addF F1 q) (H := upd H1 q (.lst (rgV 0 j))) 0 j
    rwa [e0] at this⟩
end
end DL

set_option Elab.async false
set_option linter.all false
set_option maxRecDepth 100000
set_option maxHeartbeats 2000000
/-! DF: o.f as a target, within a tuple too -/
namespace L2
open PySem PySem.Spec PyProof.Rows
def gFld (K : PySem.W.Frag) (to : TE) (f : Str) : TG := fun v σ H Q => to σ H fun x H1 => ∃ a C dx fs, x = .ref a ∧ H1 a = some (.ins C dx fs) ∧ Cls K C ∧ NoAttr K C f ∧ fs.length < 1000 ∧ Q σ (upd H1 a (.ins C dx (putF f v fs)))
theorem pg_fld {X : Cx} {o : Expr} {to : TE} {f : Str} {pos : Pos} (ho : PE X o to)
    (ha : ∀ v, assign (.Attribute o f pos) X.env v = (do
      let ov ← holding [v] (eval o X.env)
      standAt pos.atName
      holding [v, ov] (setAttr ov f v)
      release [v, ov] []) := by intro _; rfl) : PG X (.Attribute o f pos) (gFld X.K to f) := by
  refine ⟨fun pins s σ H v u Q I r h => ?_⟩
  rw [ha]
  refine wpAny_bind (wpAny_holding (thn (ho.run pins s σ H _ I h) fun ov s1 ⟨x, H1, I1, rx, a, C, dx, fs, ex, ea, c, n, l, q⟩ => ?_))
  subst ex
  obtain rfl : ov = Value.ref a := rx
  refine wpAny_bind (wpAny_standAt (wpAny_bind (wpAny_holding ?_)))
  exact setattr_ok I1 ea c n l r fun s3 I3 => wpAny_release ⟨σ, _, I3, q⟩
end L2
namespace DL
open PySem L2
def dgFld (C : Addr) (f : Str) (to : DTE) : DTG := fun d δ μ q => to δ μ fun x μ1 => match x with
  | .adr p => ∃ ns l, μ1 p = some (.obj C ns l) ∧ ns.length < 1000 ∧ q δ (updM μ1 p (.obj C (putN f d ns l).1 (putN f d ns l).2))
  | _ => False
theorem dg_fld {O : Org} {X : Cx} {C : Addr} {f : Str} {o : Expr} {to : DTE} {pos : Pos} (c : Cls X.K C) (n : NoAttr X.K C f) (ho : DE O X o to)
    (ha : ∀ v, assign (.Attribute o f pos) X.env v = (do
      let ov ← holding [v] (eval o X.env)
      standAt pos.atName
      holding [v, ov] (setAttr ov f v)
      release [v, ov] []) := by intro _; rfl) : DGw O X (.Attribute o f pos) [] (dgFld C f to) :=
  pg_weak (pg_fld ho ha) fun v σ H Q ⟨F, d, δ, μ, q, hd, rs, r, t, k⟩ =>
    ⟨F, δ, μ, _, hd, rs, t, fun F1 H1 μ1 x vo e1 hd1 r1 t1 => by
      cases x <;> first | exact False.elim t1 | skip
      rename_i p
      obtain rfl : vo = .ref p := r1
      obtain ⟨ns, l, hm, hl, t1⟩ := t1
      obtain ⟨_, dx, vs, h1, h2, h3⟩ := hd1.own p _ hm
      have ex := ext_set (o := HO.ins C dx (putF f v (ns.zip vs))) hd1 hm
      obtain ⟨vs', p1, p2, p3⟩ := putN_rep (f := f) ((r.ext e1).ext ex) h2 (h3.ext ex)
      refine ⟨p, C, dx, _, rfl, h1, c, n, by rw [List.length_zip]; omega, ?_⟩
      exact k F1 _ _ δ σ (e1.trans ex) (hd1.set (m' := .obj C (putN f d ns l).1 (putN f d ns l).2) hm ⟨dx, vs', by rw [upd_same, p1], p2, p3⟩) ((rs.ext e1).ext ex) (Agr.refl _ _) t1⟩
end DL

set_option Elab.async false
set_option linter.all false
set_option maxRecDepth 100000
set_option maxHeartbeats 2000000
/-! DV: a, .., *rest = a tuple -/
namespace L2
open PySem PySem.Spec PyProof.Rows PySem.W
section
variable {prog : Program} {w : World} {A : Around} {E : Value → Shared → Prop} {s : Shared}
theorem walks_shift {I : Addr} {fp wr : List Addr} {G : Array GenState → Array GenState → Prop} {n : Nat} {P : Nat → Value → Prop} {St : Nat → Shared → Prop} (W : WalksS prog w A I fp wr G n P St) {k : Nat} (hk : k ≤ n) :
    WalksS prog w A I fp wr G (n - k) (fun i => P (k + i)) (fun i => St (k + i)) where
  sub := W.sub
  grefl := W.grefl
  gtrans := W.gtrans
  frame := fun i => W.frame (k + i)
  item := fun i s Q E hi st hQ => W.item (k + i) s Q E (by omega) st hQ
  done := fun s Q E st hQ => W.done s Q E (by have e : k + (n - k) = n := by omega
                                              rw [e] at st; exact st) hQ
  self := fun i => W.self (k + i)
theorem unpack_star {t : Addr} {items : Array Value} {n : Nat} {Q : List Value → Shared → Prop} (hh : A.handled = none) (ht : IsTup s.heap t items) (hle : n ≤ items.size) (hsz : items.size ≤ sizeLine)
    (hQ : ∀ (h' : Heap) (tk : Nat), (∀ b o, s.heap.get? b = some o → h'.get? b = some o) → Q (items.toList.take n ++ [.ref h'.objs.size]) { s with heap := h'.push { cls := .type "list", data := .seq (items.toList.drop n).toArray }, toks := tk }) :
    wpAny (model prog w) A (unpackItems (.ref t) (n + 1) (some n)) Q E s := by
  have hlt : t ≠ s.heap.objs.size := by obtain ⟨o, ho, _⟩ := ht; exact Nat.ne_of_lt (Heap.lt_size ho)
  unfold unpackItems
  refine wpAny_bind ?_
  unfold notIterableAtAll
  refine wpAny_bind (wpAny_specialOf ht.typeIs slot_tuple_iter.lookup ?_)
  refine wpAny_pure ?_
  simp only [Bool.false_eq_true, if_false]
  refine wpAny_bind (wpAny_holding (iter_tupleW hh ht fun s₂ e2 W st hfp hnew keep => ?_))
  subst e2
  refine wpAny_bind (wpAny_holding (draw_tuple hlt n 0 _ _ st.1 st.2 (by omega) fun h₁ hit₁ hs₁ => ?_))
  have hl : ((items.toList.drop 0).take n).length = n := by
    rw [List.drop_zero, List.length_take, Array.length_toList]; omega
  rw [if_neg (by rw [hl]; omega)]
  have W1 := walks_shift (Walks.tuple (prog := prog) (w := w) (A := A.in1) hh s.heap.objs.size t hlt items).toS hle
  have ht1 : h₁.IsTuple t items := st.2.extBut hs₁.extBut hlt
  rw [Nat.zero_add] at hit₁
  refine wpAny_bind (wpAny_holding (wpAny_collect_iter (T := "tuple_iterator") (.inr (.inr (.inr rfl))) W1 (fun i s' st' => ?_) ⟨by rw [Nat.add_zero]; exact hit₁, ht1⟩ (fun b hb => ?_) (by simp) (fun s' acc m its => ?_) (by omega)))
  · obtain ⟨o, e1, e2, _⟩ := st'.1
    exact ⟨o, e1, e2⟩
  · rcases List.mem_cons.mp hb with z | z
    · subst z
      obtain ⟨o, e1, _⟩ := hit₁
      exact Heap.lt_size e1
    · obtain rfl := List.mem_singleton.mp z
      obtain ⟨o, e1, _⟩ := ht1
      exact Heap.lt_size e1
  · have ea : acc.toList = items.toList.drop n := by
      refine List.ext_getElem? fun j => ?_
      rw [List.getElem?_drop, Array.getElem?_toList, Array.getElem?_toList]
      cases e : acc[j]? with
      | none =>
        have : acc.size ≤ j := by simpa using e
        rw [its.1] at this
        exact (Array.getElem?_eq_none (by omega)).symm
      | some v => exact (its.2 j v e).symm
    have es : s' = { s with heap := s'.heap, toks := s'.toks } := by
      have g1 := m.gens
      have g2 := m.drawn
      have g3 := m.os
      cases s'
      simp only at g1 g2 g3
      subst g1 g2 g3
      rfl
    have keep2 : ∀ b o, s.heap.get? b = some o → s'.heap.get? b = some o := fun b o e => by
      have nb : b ≠ s.heap.objs.size := Nat.ne_of_lt (Heap.lt_size e)
      refine m.heap b o (by simpa using nb) ?_
      exact hs₁.extBut b o nb (keep b o e)
    rw [ea]
    have e0 : n + 1 - 1 - n = 0 := by omega
    rw [e0, if_neg (by omega)]
    refine wpAny_bind (wpAny_newList ?_)
    have q := hQ s'.heap s'.toks keep2
    have e1 : (items.toList.drop n).length - 0 = (items.toList.drop n).length := Nat.sub_zero _
    rw [e1, List.take_length, List.drop_length, List.append_nil, List.drop_zero]
    rw [es]
    exact wpAny_pure q
end
section
variable {X : Cx} {e : Expr} {es : List Expr} {t : TG} {u : TGs} {p pos : Pos}
theorem pgs_star (h1 : PG X e t) (h2 : PGs X es u)
    (hs : (assignEach (.Starred e p :: es) X.env).map (·.2) = assign e X.env :: (assignEach es X.env).map (·.2) := by rfl) : PGs X (.Starred e p :: es) (gCons t u) := by
  refine ⟨fun pins s σ H vs us Q I r h => ?_⟩
  obtain ⟨v, vr, e1, h⟩ := h
  subst e1
  cases r with
  | cons r rr =>
    rw [hs]
    refine assignInOrder_cons (thn (h1.run pins s σ H _ _ _ I r h) fun _ s1 ⟨σ1, H1, I1, q1⟩ => ?_)
    exact h2.run pins s1 σ1 H1 _ _ Q I1 rr q1
/-- a, .., *rest = a tuple: n names, then the rest as a new list -/
def gStar (K : PySem.W.Frag) (n : Nat) (t : TGs) : TG := fun v σ H Q => ∃ a xs, v = .ref a ∧ SqT K H a xs ∧ n ≤ xs.length ∧ ∀ b, H b = none → t (xs.take n ++ [.ref b]) σ (upd H b (.lst (xs.drop n))) Q
theorem pg_star {k n : Nat} (hc : X.calm = true) (h : PGs X es u)
    (hn : (assignEach es X.env).length = n + 1 := by rfl) (hst : (assignEach es X.env).findIdx? (·.1) = some n := by rfl) : PG X (.Tuple es k pos) (gStar X.K n u) := by
  refine ⟨fun pins s σ H v u Q I r hw => ?_⟩
  obtain ⟨a, xs, e1, hq, hl, hw⟩ := hw
  subst e1
  cases r
  obtain ⟨its, rv, ht, hz⟩ := I.tuple hq
  have hlen := rv.length
  rw [PyProof.Rows.assign_Tuple]
  refine wpAny_bind (wpAny_standAt ?_)
  unfold unpack
  rw [hn, hst]
  refine wpAny_bind (wpAny_holding (unpack_star (I.ok.hd hc) ht (by simpa [← hlen] using hl) (by simpa [← hlen] using hz) fun h' tk keep => ?_))
  have gone : s.heap.get? h'.objs.size = none := by
    cases e : s.heap.get? h'.objs.size with
    | none => rfl
    | some o => exact absurd (Heap.lt_size (keep _ _ e)) (Nat.lt_irrefl _)
  have hn' : H h'.objs.size = none := I.hok.gone gone
  have keep2 : ∀ b o, s.heap.get? b = some o → (h'.push { cls := .type "list", data := .seq (its.drop n).toArray }).get? b = some o := fun b o e => Heap.get?_push_of_some _ (keep b o e)
  have new : ObjOk X.prog X.w (upd H h'.objs.size (.lst (xs.drop n))) (h'.push { cls := .type "list", data := .seq (its.drop n).toArray }) h'.objs.size (.lst (xs.drop n)) :=
    ⟨by rw [List.length_drop]; omega, its.drop n, 0, rv.drop n, Heap.get?_push_size _ rfl⟩
  have I1 := I.laidN (t' := tk) keep2 gone hn' new
  have e2 : its.toArray.toList = its := by simp
  rw [e2]
  exact h.run pins _ σ _ _ _ Q I1 ((rv.take n).append (.cons (show RelV (V.ref h'.objs.size) (Value.ref h'.objs.size) from rfl) .nil)) (hw _ hn')
end
end L2
namespace DL
open PySem L2
/-- a, .., *rest = a tuple that stands -/
def dgStar (n : Nat) (t : DTGs) : DTG := fun d δ μ q => match d with
  | .tup l => n ≤ l.length ∧ t (l.take n ++ [.lst (l.drop n)]) δ μ q
  | _ => False
section
variable {O : Org} {X : Cx} {pos p : Pos} {e : Expr} {es : List Expr} {ws us : List Nat} {t : DTG} {u : DTGs}
theorem dgs_star (h1 : DGw O X e ws t) (h2 : DGsw O X es us u) (hs : (assignEach (.Starred e p :: es) X.env).map (·.2) = assign e X.env :: (assignEach es X.env).map (·.2) := by rfl) : DGsw O X (.Starred e p :: es) (ws ++ us) (dgCons t u) :=
  pgs_weak (pgs_star h1 h2 hs) fun vs σ H Q ⟨F, ds, δ, μ, q, hd, rs, r, t, k⟩ => by
  cases ds with
  | nil => exact t.elim
  | cons d ds =>
    obtain ⟨v, vr, rfl, r1, r2⟩ := r
    refine ⟨v, vr, rfl, F, d, δ, μ, _, hd, rs, r1, t, fun F1 H1 μ1 δ1 σ1 e1 hd1 rs1 a1 t1 => ?_⟩
    exact ⟨F1, ds, δ1, μ1, q, hd1, rs1, r2.ext e1, t1, fun F2 H2 μ2 δ2 σ2 e2 hd2 rs2 a2 t2 =>
      k F2 H2 μ2 δ2 σ2 (e1.trans e2) hd2 rs2 ((a1.mono fun i hi => List.mem_append_left _ hi).trans (a2.mono fun i hi => List.mem_append_right _ hi)) t2⟩
theorem RepL.takeN {K : PySem.W.Frag} {F : Zo} {H : Hp} : ∀ {l : List D} {vs : List V} (n : Nat), RepL K F H l vs → RepL K F H (l.take n) (vs.take n)
  | [], vs, n, r => by
    obtain rfl : vs = [] := r
    rw [List.take_nil, List.take_nil]; exact RepL.nil
  | d :: l, vs, 0, r => RepL.nil
  | d :: l, vs, n + 1, ⟨v, r, e, h1, h2⟩ => by
    subst e
    exact .cons h1 (RepL.takeN n h2)
theorem RepL.dropN {K : PySem.W.Frag} {F : Zo} {H : Hp} : ∀ {l : List D} {vs : List V} (n : Nat), RepL K F H l vs → RepL K F H (l.drop n) (vs.drop n)
  | [], vs, n, r => by
    obtain rfl : vs = [] := r
    rw [List.drop_nil, List.drop_nil]; exact RepL.nil
  | d :: l, vs, 0, r => r
  | d :: l, vs, n + 1, ⟨v, r, e, h1, h2⟩ => by
    subst e
    exact RepL.dropN n h2
theorem dg_star {n : Nat} {k0 : Nat} (hc : X.calm = true) (h : DGsw O X es us u) (hn : (assignEach es X.env).length = n + 1 := by rfl) (hst : (assignEach es X.env).findIdx? (·.1) = some n := by rfl) : DGw O X (.Tuple es k0 pos) us (dgStar n u) :=
  pg_weak (pg_star hc h hn hst) fun v σ H Q ⟨F, d, δ, μ, q, hd, rs, r, t, k⟩ => by
    unfold dgStar at t
    split at t
    · rename_i l
      obtain ⟨a, vs, rfl, h1, h2⟩ := r
      refine ⟨a, vs, rfl, h1.sq, by rw [← h2.length]; exact t.1, fun b hb => ?_⟩
      have ex := ext_newF (o := HO.lst (vs.drop n)) hd hb
      refine ⟨_, l.take n ++ [.lst (l.drop n)], δ, μ, q, hd.newF hb, rs.ext ex, ((h2.takeN n).ext ex).append (RepL.cons (show Rep X.K (addF F b) _ (.lst (l.drop n)) (.ref b) from ⟨b, _, rfl, ⟨.inr rfl, upd_same⟩, (h2.dropN n).ext ex⟩) RepL.nil), t.2, fun F2 H2 μ2 δ2 σ2 e2 => k F2 H2 μ2 δ2 σ2 (ex.trans e2)⟩
    · exact t.elim
end
/-- a tuple of whole numbers that the module's top has made -/
theorem de_gtup {O : Org} {X : Cx} {x : Str} {ns : List Int} {pos : Pos} (hg : Gl X x) (hm : ∃ a, X.mg x = some (.ref a) ∧ ∀ F H, Rep X.K F H (.tup (ns.map D.int)) (.ref a)) (hd : (x == ("__debug__" : Str)) = false := by decide) : DE O X (.Name x pos) (dC (.tup (ns.map D.int))) := by
  obtain ⟨a, hm, hr⟩ := hm
  exact de_of_c (pe_glob (v := .ref a) hg hm rfl hd) fun F H => hr F H
end DL

set_option Elab.async false
set_option linter.all false
set_option maxRecDepth 100000
/-! DQ: math.isqrt, xs[::-1] -/
namespace L2
open PySem PySem.Spec PyProof.Rows
def rIsq : List V → Hp → VK → Prop := fun vs H Q => ∃ a : Int, vs = [.int a] ∧ 0 ≤ a ∧ a < 2 ^ 64 ∧ Q (.int ((Float64.isqrt a.toNat : Nat) : Int)) H
theorem cr_isq {X : Cx} : CallR X (.builtin "math.isqrt") rIsq := by
  intro pins s σ H vs us Q I r h
  obtain ⟨a, rfl, h0, h1, q⟩ := h
  cases r with
  | cons r rr =>
    cases rr
    obtain ⟨t, rfl⟩ := r
    exact PySem.W.mg_isqrt h0 h1 ⟨.int _, H, I.tok _, ⟨_, rfl⟩, q⟩
end L2
namespace DL
open PySem L2 PySem.Spec PyProof.Rows
def rIsqD : DC2 := fun ds μ q => match ds with | [.int a] => 0 ≤ a ∧ a < 2 ^ 64 ∧ q (.int ((Float64.isqrt a.toNat : Nat) : Int)) μ | _ => False
theorem cd_isq {K : PySem.W.Frag} : CallD K rIsq rIsqD := by
  intro O F H μ ds vs q Q hd rs t k
  unfold rIsqD at t
  split at t
  · rename_i i
    obtain ⟨v, rfl, h1⟩ := repL1 rs
    obtain rfl : v = .int i := h1
    exact ⟨i, rfl, t.1, t.2.1, k F H μ _ _ (Ext.refl F H) hd rep_int t.2.2⟩
  · exact t.elim
theorem RepL.reverse {K : PySem.W.Frag} {F : Zo} {H : Hp} : ∀ {l : List D} {vs : List V}, RepL K F H l vs → RepL K F H l.reverse vs.reverse
  | [], vs, h => by
    have h : vs = [] := h
    subst h; exact RepL.nil
  | d :: l, _, ⟨v, r, h1, h2, h3⟩ => by
    subst h1
    rw [List.reverse_cons, List.reverse_cons]
    exact (RepL.reverse h3).append (.cons h2 RepL.nil)
def dRevL (te : DTE) : DTE := fun δ μ q => te δ μ fun d μ1 => match lstOf μ1 d with | some l => q (.lst l.reverse) μ1 | none => False
theorem de_revL {O : Org} {X : Cx} {e : Expr} {te : DTE} {k : Nat} {p1 p2 p3 pos : Pos} (he : DE O X e te) : DE O X (.Subscript e (.Slice none none (some (.UnaryOp .USub (.Constant (.int 1) k p1) p2)) p3) pos) (dRevL te) :=
  pe_weak (pe_revL he) fun σ H Q ⟨F, δ, μ, q, hd, rs, t, k⟩ => ⟨F, δ, μ, _, hd, rs, t, fun F1 H1 μ1 d v e1 hd1 r1 t1 => by
    split at t1
    · rename_i l e0
      obtain ⟨a, vs, rfl, h1, h2⟩ := list_sq hd1 r1 e0
      exact ⟨a, vs, rfl, h1, fun p hp => k _ _ μ1 (.lst l.reverse) (.ref p) (e1.trans (ext_newF hd1 hp)) (hd1.newF hp) ⟨p, vs.reverse, rfl, ⟨.inr rfl, upd_same⟩, h2.reverse.ext (ext_newF hd1 hp)⟩ t1⟩
    · exact t1.elim⟩
end DL

set_option Elab.async false
set_option linter.all false
set_option maxRecDepth 100000
set_option maxHeartbeats 1000000
/-! DN: == and != by an own __eq__; isinstance; methods without arguments -/
namespace L2
open PySem PySem.Spec PyProof.Rows
section
variable {prog : Program} {w : World} {A : Around} {E : Value → Shared → Prop} {s : Shared} {K : PySem.W.Frag} {x C f : Addr} {ox : Obj} {od : Option Obj} {b : Value}
theorem ne_K {Q : Value → Shared → Prop} (hu : A.units + 1 < cLine) (X : K.In s.heap) (I : PySem.W.InstAt s.heap x ox C od) (hb : PySem.W.Looks (model prog w) s.heap (typeOf b) (.ref C))
    (hn : PySem.W.findIn K (.ref C) "__ne__" = some (some (.builtin "object.__ne__"))) (hm : PySem.W.mroIn K C (.type "object") = some true) (he : PySem.W.findIn K (.ref C) "__eq__" = some (some (.ref f))) (hf : PySem.W.isFn K (.ref f) = true)
    (h : wpAny (model prog w) A.in1 (call (.ref f) [.ref x, b]) (fun v s' => ∃ r, v = .bool r ∧ Q (.bool (!r)) s') E s) : wpAny (model prog w) A (richCompare .NotEq (.ref x) b) Q E s := by
  have hi : PySem.W.Looks (model prog w) s.heap (isInstance (.ref x) (.type "object")) true := I.type.andThen (PySem.W.looks_mroIn X hm)
  have body : ∀ {Q' : Fin → Shared → Prop}, (∀ r s', Q (.bool (!r)) s' → Q' (.done (.ret (.bool (!r)))) s') → wpAny (model prog w) A.in1 (Builtin.«object.__ne__» ⟨[.ref x, b], []⟩) Q' E s := fun {Q'} k => by
    unfold Builtin.«object.__ne__»
    repeat (first
      | with_reducible refine wpAny_cRoomFor (show A.in1.units < cLine from hu) ?_
      | (refine wpAny_bind (m := callSpecialIfBound? (.ref x) (Str.ofString "__eq__") [b])
          (PySem.W.ifBound_K X I he hf (wpAny_mono h (fun r s' hr => by
            obtain ⟨b, rfl, hq⟩ := hr
            have hq := k b s' hq
            repeat (first | exact hq | exact wpAny_pure hq | exact wpAny_truthy_bool hq | (refine wpAny_bind (m := truthy (.bool _)) (wpAny_truthy_bool ?_)) | wp_step)) fun _ _ e => e)))
      | wp_step)
  have one : wpAny (model prog w) A (tryCompare (.ref x) "__ne__" b) (fun r s' => ∃ v, r = some v ∧ Q v s') E s := by
    unfold tryCompare
    refine wpAny_bind ?_
    simp only [callSpecialIfBound?, bindSpecialIfBound?]
    refine wpAny_holding (wpAny_bind (wpAny_bind (wpAny_bind (I.type.here ((PySem.W.looks_findIn X hn).here ?_)))))
    simp only [F.cmp_object.ne.bind]
    refine wpAny_bind (wpAny_askSetting (wpAny_ite ?_))
    have fin : ∀ {Qx : Option Value → Shared → Prop}, (∀ r s', Q (.bool (!r)) s' → Qx (some (.bool (!r))) s') → wpAny (model prog w) A (call (.builtin "object.__ne__") ([.ref x] ++ [b]) >>= fun v => pure (some v)) Qx E s := fun {Qx} k => by
      refine wpAny_bind (wpAny_call (codeAny_call_builtin F.cmp_object.ne.plain F.cmpEntry_ne (PySem.W.check_slot F.cmpKind_ne F.cmpSplit_ne hi (F.cmpArgs_ne _ _) (body fun r s' q => ?_))))
      exact wpAny_pure (k r s' q)
    split
    · exact wpAny_bind (wpAny_pure (wpAny_pure (fin fun r s' q => wpAny_pure ⟨_, rfl, q⟩)))
    · exact wpAny_tryCatch (wpAny_bind (wpAny_pure (wpAny_pure (fin fun r s' q => wpAny_pure ⟨_, rfl, q⟩))))
  unfold richCompare
  simp only [oneThing_ref]
  refine wpAny_holding (wpAny_bind (wpAny_cRoomFor (Nat.lt_of_succ_lt hu) ?_))
  rw [cmpInfo_NotEq]
  dsimp only
  refine wpAny_bind (I.type.here (wpAny_bind (hb.here ?_)))
  rw [show (Value.ref C != Value.ref C) = false from by simp]
  simp only [Bool.false_eq_true, if_false]
  refine wpAny_bind (wpAny_pure ?_)
  simp only [Bool.false_eq_true, if_false]
  refine wpAny_bind (wpAny_mono one (fun r s' z => ?_) fun _ _ e => e)
  obtain ⟨v, rfl, hq⟩ := z
  exact wpAny_pure hq
end
end L2

set_option Elab.async false
set_option linter.all false
set_option maxRecDepth 100000
set_option maxHeartbeats 1000000
namespace DL
open PySem L2 PySem.Spec PyProof.Rows
section
variable {X : Cx} {k : Nat} {C : Addr} {ps : List Str} {c : DSp}
/-- x == y by an own __eq__ -/
def rEqOwn (K : PySem.W.Frag) (C : Addr) (c : DSp) (g : Bool → Bool) : R2 := fun x y H Q => ∃ a b dx dy fs gs, x = .ref a ∧ y = .ref b ∧ H a = some (.ins C dx fs) ∧ H b = some (.ins C dy gs) ∧ LSp K c [.ref a, .ref b] H (fun v H' => ∃ r, v = .bl r ∧ Q (.bl (g r)) H') fun _ _ _ => False
theorem run_eqOwn {A : Around} {pins : List (Addr × Obj)} {σ : L2.St} {H : Hp} {s : Shared} {a b : Addr} {Q : Bool → Hp → Prop} {f : Addr} {fd : FuncData} (F : FnG X.prog X.w X.K X.mg X.base k f fd ps (LSp X.K c)) (hb : Binds X.K fd ps []) (hr : Room k A) (hgd : A.guards = some []) (e0 : Env0 X.prog X.w X.K X.mg X.base A X.stack s H)
    (I : Inv X pins σ H s) (q : LSp X.K c [.ref a, .ref b] H (fun v H' => ∃ r, v = .bl r ∧ Q r H') fun _ _ _ => False) {E' : Value → Shared → Prop} :
    wpAny (model X.prog X.w) A (call (.ref f) [.ref a, .ref b]) (fun v s' => ∃ r H', v = .bool r ∧ Inv X pins σ H' s' ∧ Q r H') E' s := by
  have hl : ([Value.ref a, Value.ref b] ++ []).length = ps.length := F.len _ _ _ _ q
  refine wpAny_call (codeAny_mono (F.run A X.stack s H ⟨[.ref a, .ref b], []⟩ [.ref a, .ref b] [.ref a, .ref b] _ _ hr hgd e0 (hb _ [.ref a, .ref b] I.kIn hl) (.cons rfl (.cons rfl .nil)) q) ?_)
  intro res s2 end2
  match res, end2 with
  | .error er, end2 =>
    obtain ⟨a, B, H', cls, d, _, _, _, _, _, _, _, z⟩ := end2
    exact z.elim
  | .ok (.ret u), end2 =>
    obtain ⟨v, H', I3, rv, r, rfl, q3⟩ := I.after end2
    cases (show u = Value.bool r from rv)
    exact ⟨r, H', rfl, I3, q3⟩
theorem op_eqOwn (h : Mm X.prog X.w X.K X.mg X.base C "__eq__" k ps c) (hr : Room (k + 1) X.A) (hgd : X.A.guards = some []) : OpR X (compareOp .Eq) (rEqOwn X.K C c id) := by
  intro pins s σ H x y v u Q I rx ry hq
  obtain ⟨f, fd, hm, F, hb⟩ := h.ex
  obtain ⟨a, b, dx, dy, fs, gs, rfl, rfl, ha, hb', q⟩ := hq
  cases rx
  cases ry
  obtain ⟨mA, J, _⟩ := ins_get I.hok ha
  obtain ⟨mB, J', _⟩ := ins_get I.hok hb'
  obtain ⟨od, J, _⟩ := J.look
  obtain ⟨od', J', _⟩ := J'.look
  obtain ⟨m, hF⟩ := I.fr
  show wpAny (model X.prog X.w) X.A (richCompare .Eq (.ref a) (.ref b)) (EP X pins σ Q) X.xe s
  refine PySem.W.cmp_K (op := .Eq) (tb := .ref C) hr.units0 hF I.ok.mod.kin J J'.type (by simp [PySem.W.notFirst]) hm.at_ hm.fn ?_
  refine wpAny_mono (run_eqOwn F hb (hr.mono (Nat.le_succ k)) hgd I.env0 I q) (fun v s' hv => ?_) fun _ _ e => e
  obtain ⟨r, H', rfl, I3, q3⟩ := hv
  exact ⟨.bl r, H', I3, rfl, q3⟩
/-- object.__ne__ stands -/
structure NeOk (K : PySem.W.Frag) (C : Addr) : Prop where
  ne : PySem.W.findIn K (.ref C) "__ne__" = some (some (.builtin "object.__ne__"))
  ob : PySem.W.mroIn K C (.type "object") = some true
theorem op_neOwn (n : NeOk X.K C) (h : Mm X.prog X.w X.K X.mg X.base C "__eq__" k ps c) (hr : Room (k + 1) X.A) (hgd : X.A.guards = some []) : OpR X (compareOp .NotEq) (rEqOwn X.K C c not) := by
  intro pins s σ H x y v u Q I rx ry hq
  obtain ⟨f, fd, hm, F, hb⟩ := h.ex
  obtain ⟨a, b, dx, dy, fs, gs, rfl, rfl, ha, hb', q⟩ := hq
  cases rx
  cases ry
  obtain ⟨mA, J, _⟩ := ins_get I.hok ha
  obtain ⟨mB, J', _⟩ := ins_get I.hok hb'
  obtain ⟨od, J, _⟩ := J.look
  obtain ⟨od', J', _⟩ := J'.look
  show wpAny (model X.prog X.w) X.A (richCompare .NotEq (.ref a) (.ref b)) (EP X pins σ Q) X.xe s
  refine ne_K (by have := hr.un; omega) I.kIn J J'.type n.ne n.ob hm.at_ hm.fn ?_
  refine wpAny_mono (run_eqOwn (A := X.A.in1) F hb hr.in1 hgd I.env0.in1 I q) (fun v s' hv => ?_) fun _ _ e => e
  obtain ⟨r, H', rfl, I3, q3⟩ := hv
  exact ⟨r, rfl, .bl (!r), H', I3, rfl, q3⟩
def rEqZ (C : Addr) (c : DSp) (g : Bool → Bool) : DR2 := fun x y μ q => match x, y with
  | .ins C1 n1 l1, .ins C2 n2 l2 => C1 = C ∧ C2 = C ∧ c [.ins C1 n1 l1, .ins C2 n2 l2] μ (fun d μ' => ∃ r, d = .bl r ∧ q (.bl (g r)) μ') eN
  | _, _ => False
theorem od_eqZ {K : PySem.W.Frag} {g : Bool → Bool} : OpD K (rEqOwn K C c g) (rEqZ C c g) := by
  intro O F H μ x y v w q Q hd rx ry t k
  cases x <;> cases y <;> first | exact False.elim t | skip
  obtain ⟨rfl, rfl, t⟩ := t
  obtain ⟨a, dx, vs, rfl, ⟨_, h1⟩, h5⟩ := id rx
  obtain ⟨b, dy, ws, rfl, ⟨_, h2⟩, h6⟩ := id ry
  refine ⟨a, b, dx, dy, _, _, rfl, rfl, h1, h2, F, μ, _, _, eN, hd.here, .cons rx (.cons ry RepL.nil), t, fun F2 H2 μ2 d v hd2 r2 ⟨r, ed, q2⟩ => ?_, fun cls dd H' ⟨C, b, v, d, F', μ', h1, h2, h3, h4, h5, h5', h6⟩ => h6.elim⟩
  subst ed
  cases (show v = V.bl r from r2)
  obtain ⟨p1, p2⟩ := hd.back hd2
  exact ⟨r, rfl, k F2 H2 μ2 _ _ p2 p1 rep_bl q2⟩
end
theorem kit_self {K : PySem.W.Frag} {C : Addr} : PySem.W.kitOne K (.ref C) (.ref C) = some true := by
  show (if (Value.ref C == Value.ref C) = true then some true else _) = some true
  rw [if_pos (by simp)]
/-! names of classes -/
theorem de_typ {O : Org} {X : Cx} {x : Str} {T : String} {pos : Pos} (hg : Gl X x) (hm : X.mg x = none) (hv : bootBuiltins x = some (.type T)) (hn : x ≠ "__name__" := by decide) (hdb : (x == ("__debug__" : Str)) = false := by decide) : DE O X (.Name x pos) (dC (.typ T)) :=
  de_of_c (v := .ty T) ⟨fun pins s σ H Q I h => ld_blt I hg hm hv ⟨.ty T, H, I, rfl, h⟩ hn hdb⟩ fun _ _ => rfl
theorem de_cls {O : Org} {X : Cx} {x : Str} {C : Addr} {pos : Pos} (hg : Gl X x) (hm : X.mg x = some (.ref C)) (hdb : (x == ("__debug__" : Str)) = false := by decide) : DE O X (.Name x pos) (dC (.adr C)) :=
  de_of_c (v := .ref C) (pe_glob hg hm rfl hdb) fun _ _ => rfl
/-! isinstance -/
def isStrD : D → Option Bool
  | .str _ => some true
  | .int _ => some false
  | .tup _ => some false
  | .non => some false
  | .bl _ => some false
  | _ => none
def rIsStrD : DC2 := fun ds μ q => match ds with
  | [x, .typ t] => t = "str" ∧ ∃ b, isStrD x = some b ∧ q (.bl b) μ
  | _ => False
theorem cd_isStr {K : PySem.W.Frag} : CallD K (rIsi K) rIsStrD := by
  intro O F H μ ds vs q Q hd rs t k
  unfold rIsStrD at t
  split at t
  · rename_i x tn
    obtain ⟨rfl, b, hb, t⟩ := t
    obtain ⟨v, w, rfl, h1, h2⟩ := repL2 rs
    cases (show w = V.ty "str" from h2)
    have done : ∀ tt, TyX K H v tt → PySem.W.kitOne K tt (.type "str") = some b → rIsi K [v, .ty "str"] H Q := fun tt ty e => ⟨v, .ty "str", tt, .type "str", b, rfl, .ty "str", ty, e, k F H μ _ _ (Ext.refl F H) hd rep_bl t⟩
    cases x <;> simp only [isStrD] at hb <;> try cases hb
    · cases (show v = V.non from h1)
      exact done _ (.base .non) (kit_ty (by decide +kernel))
    · rename_i y
      cases (show v = V.bl y from h1)
      exact done _ (.base (.bl y)) (kit_ty (by decide +kernel))
    · rename_i y
      cases (show v = V.int y from h1)
      exact done _ (.base (.int y)) (kit_ty (by decide +kernel))
    · rename_i y
      cases (show v = V.str y from h1)
      exact done _ (.base (.str y)) (kit_ty (by decide +kernel))
    · obtain ⟨a, us, rfl, hz, _⟩ := h1
      have e : PySem.W.kitOne K (.type "tuple") (.type "str") = some false := kit_ty (by decide +kernel)
      rcases hz with ⟨_, hz | ⟨o, hz⟩⟩ | hz
      · exact done _ (.base (.tup hz)) e
      · exact done _ (.fTuple hz) e
      · rcases hz (fun _ => none) with hz | ⟨o, its, n, h3, h4, _⟩
        · rcases hz with hz | ⟨o, hz⟩ <;> cases hz
        · exact done _ (.kTuple h3 h4) e
  · exact t.elim
def rIsOwnD (C : Addr) : DC2 := fun ds μ q => match ds with | [.ins C' _ _, .adr c] => C' = C ∧ c = C ∧ q (.bl true) μ | _ => False
theorem cd_isOwn {K : PySem.W.Frag} {C : Addr} : CallD K (fun xs H Q => ∃ a dx fs, xs = [.ref a, .ref C] ∧ H a = some (.ins C dx fs) ∧ Q (.bl true) H) (rIsOwnD C) := by
  intro O F H μ ds vs q Q hd rs t k
  unfold rIsOwnD at t
  split at t
  · obtain ⟨rfl, rfl, t⟩ := t
    obtain ⟨v, w, rfl, h1, h2⟩ := repL2 rs
    obtain ⟨a, dx, us, rfl, ⟨_, h3⟩, _⟩ := h1
    cases h2
    exact ⟨a, dx, _, rfl, h3, k F H μ _ _ (Ext.refl F H) hd rep_bl t⟩
  · exact t.elim
end DL

set_option Elab.async false
set_option linter.all false
set_option maxRecDepth 100000
set_option maxHeartbeats 2000000
/-! DSC: {e for x in xs} of whole numbers, its length -/
namespace L2
open PySem PySem.Spec PyProof.Rows PpSet
/-- one number more -/
def oneMore (S : Int → Bool) (k : Int) : Int → Bool := fun j => S j || decide (j = k)
def upN (S : Int → Bool) (k : Int) (n : Nat) : Nat := if S k = true then n else n + 1
def noneI : Int → Bool := fun _ => false
/-- the reading of such a comprehension; A the set -/
def tSetI (w : World) (ti : TI) (g : TG) (tc : TT) (ty : TE) (vs : List Nat) : TE := fun σ H Q => ti σ H fun J G => ∀ A, G A = none → ∃ P : Nat → Nat → Hp → Prop, (∃ m, P 0 m (upd G A (SetO w A noneI 0))) ∧ ∀ i m G, P i m G →
  (J.stop i G ∧ Q (.ref A) G) ∨ (J.go i G ∧ ∃ Z : Hp → Prop, (∀ G', Z G' → ∃ m', m' < m ∧ P (i + 1) m' G') ∧ ∀ x G', J.yld i G x G' → g x (wipe σ vs) G' fun τ G2 => wipe τ vs = wipe σ vs ∧ tc τ G2 fun b G3 =>
    if b = true then ty τ G3 fun y G4 => ∃ k S n, y = .int k ∧ G4 A = some (SetO w A S n) ∧ n + 1 < scanBound ∧ Z (upd G4 A (SetO w A (oneMore S k) (upN S k n))) else Z G3)
section
variable {X : Cx} {elt tg iter : Expr} {ifs : List Expr} {scope : Scope} {own : List (PySem.Str × Nat)} {pos : Pos} {ti : TI} {g : TG} {tc : TT} {ty : TE}
/-- the new object, an empty set -/
abbrev eSet (w : World) : Obj := { cls := .type "set", dict := none, data := .set #[] 0 (.fresh 0 0 (!w.params.followText "set-order")) }
theorem put_set {pins : List (Addr × Obj)} {σ : L2.St} {H : Hp} {s : Shared} (I : Inv X pins σ H s) : Inv X pins σ (upd H s.heap.objs.size (SetO X.w s.heap.objs.size noneI 0)) { s with heap := s.heap.push (eSet X.w) } :=
  I.laid (t' := s.toks) (fun b o e => Heap.get?_push_of_some _ e) (Nat.le_refl _) (setO_new (setR_fresh X.w))
theorem pe_setI (calm : X.calm = true) (nd : X.N.Nodup) (it_ : PI X tg iter ti) (blk : BlkOk X.N X.env.scope scope own)
    (tg_ : ∀ (s : Shared) (H : Hp) (C : Addr) (cl : List (PySem.Str × Addr)) (fp : List Addr), PG (X.blk s H scope (compEnvC scope cl C X.env) fp) tg g)
    (tst : ∀ (s : Shared) (H : Hp) (C : Addr) (cl : List (PySem.Str × Addr)) (fp : List Addr), PTs (X.blk s H scope (compEnvC scope cl C X.env) fp) ifs tc)
    (val : ∀ (s : Shared) (H : Hp) (C : Addr) (cl : List (PySem.Str × Addr)) (fp : List Addr), PE (X.blk s H scope (compEnvC scope cl C X.env) fp) elt ty)
    (fold : ∀ x, foldedSetIterable iter X.env x = pure x) : PE X (.SetComp elt [⟨tg, iter, ifs, 0⟩] scope pos) (tSetI X.w ti g tc ty (own.map (·.2))) := by
  constructor
  intro pins s σ H Q inv start
  rw [eval_SetComp]
  have cellsThere : ∀ y ∈ scope.names, y.2 = .free → ∃ c, X.env.cells.lookup y.1 = some c := by
    intro y hy e
    exact (blk.free y hy e).elim (fun k => inv.ok.has _ (.inl k)) fun k => inv.ok.has _ (.inr k)
  refine wpAny_comprehension_free (use := none) rfl fold (closure_ok cellsThere) blk.kind (fun y hy e => by rw [blk.uniq y hy, e]) (thn (it_.run pins s σ H _ inv start) fun xv sA hA => thn hA fun itv sB hB => ?_)
  obtain ⟨walk, fp, tn, J, G, rfl, invB, turns, stB, okB, rest⟩ := hB
  refine newSet_ok (newEnv_comp ?_)
  have fresh : G sB.heap.objs.size = none := invB.hok.fresh (Nat.le_refl _)
  obtain ⟨P, ⟨m0, p0⟩, step⟩ := rest sB.heap.objs.size fresh
  have invC := put_set invB
  generalize eA : sB.heap.objs.size = A at fresh p0 step invC ⊢
  generalize eC : ({ sB with heap := sB.heap.push (eSet X.w) } : Shared) = sC at invC
  have hpC : sC.heap = sB.heap.push (eSet X.w) := by rw [← eC]
  generalize eG : upd G A (SetO X.w A noneI 0) = GC at invC p0
  have okC : ∀ b ∈ fp, FpOk X pins GC b ∧ b < sC.heap.objs.size := by
    intro b hb
    obtain ⟨o, ho, _⟩ := turns.obj _ _ stB b hb
    have lt : b < sB.heap.objs.size := Heap.lt_size ho
    refine ⟨⟨?_, (okB b hb).2⟩, ?_⟩
    · rw [← eG, upd_ne (Nat.ne_of_lt (eA ▸ lt))]
      exact (okB b hb).1
    · rw [hpC, Heap.size_push]; exact Nat.lt_succ_of_lt lt
  have stC : tn 0 sC.heap := turns.keep _ _ _ stB fun b _ o e => by rw [hpC]; exact Heap.get?_push_of_some _ e
  have invD := block_start invC blk nd okC
  have dTg := tg_ sC GC sC.heap.objs.size (cellsFrom (sC.heap.objs.size + 1) scope.names (cloFrom X.env.cells scope.names [])) fp
  have dTst := tst sC GC sC.heap.objs.size (cellsFrom (sC.heap.objs.size + 1) scope.names (cloFrom X.env.cells scope.names [])) fp
  have dVal := val sC GC sC.heap.objs.size (cellsFrom (sC.heap.objs.size + 1) scope.names (cloFrom X.env.cells scope.names [])) fp
  have goal : codeAny (model X.prog X.w) X.A (.compStart (.SetComp elt [⟨tg, iter, ifs, 0⟩] scope pos) 0 (.ref walk) (.ref A) (compEnvC scope (cellsFrom (sC.heap.objs.size + 1) scope.names (cloFrom X.env.cells scope.names [])) sC.heap.objs.size X.env))
      (compPost (model X.prog X.w) X.A X.xe none (EP X pins σ Q) (.ref A) sC.heap.objs.size) { sC with heap := pushCells (sC.heap.push { cls := .type "dict", data := .dict #[] }) scope.names } := by
    have none_ : ∀ b ∈ fp, GC b = none := fun b hb => (okC b hb).1.1
    generalize eE : compEnvC scope (cellsFrom (sC.heap.objs.size + 1) scope.names (cloFrom X.env.cells scope.names [])) sC.heap.objs.size X.env = env at invD dTg dTst dVal ⊢
    have locE : env.locals = sC.heap.objs.size := by rw [← eE]; rfl
    generalize eD : ({ sC with heap := pushCells (sC.heap.push { cls := .type "dict", data := .dict #[] }) scope.names } : Shared) = sD at invD ⊢
    have stD : tn 0 sD.heap := turns.keep _ _ _ stC fun b _ o e => by rw [← eD]; exact pushCells_keeps _ _ _ _ (Heap.get?_push_of_some _ e)
    have still : ∀ {τ : L2.St} {G' : Hp} {s' : Shared}, Inv (X.blk sC GC scope env fp) [] τ G' s' → (∀ b ∈ fp, G' b = none) → ∀ b ∈ fp, FpOk (X.blk sC GC scope env fp) [] G' b := by
      intro τ G' s' inv' hn b hb
      exact ⟨hn b hb, (inv'.ok.exf b hb).1, inv'.ok.exfs b hb, .inl hb, fun x c e => (inv'.ok.exf b hb).2 x c e, fun p hp => absurd (show p ∈ ([] : List (Addr × Obj)) ++ [] from hp) (by simp)⟩
    refine codeAny_compStart_set (?loop) (turns.self X.A 0 _ _ _ stD ?loop)
    refine compLoopS_any (fun n s' => ∃ i G', Inv (X.blk sC GC scope env fp) [] (wipe σ (own.map (·.2))) G' s' ∧ tn i s'.heap ∧ (∀ b ∈ fp, G' b = none) ∧ P i n G') ?_ m0 ⟨0, GC, invD, stD, none_, p0⟩
    rintro n s5 ⟨i, G5, inv5, st5, none5, p5⟩
    rcases step i n G5 p5 with ⟨stop, qq⟩ | ⟨go, Z, hZ, turn⟩
    · refine thnF (turns.done (X.blk sC GC scope env fp) rfl rfl rfl calm i [] s5 _ G5 (fun _ _ => False) inv5 (still inv5 none5) st5 stop) ?_
      rintro r s6 ⟨rfl, inv6⟩
      have invO : Inv X pins σ G5 s6 := invC.call' (ch := fp) inv6.os inv6.base inv6.hok inv6.bare fun b hb => ⟨(okC b hb).1.2.2.2.1, (okC b hb).1.2.1, (okC b hb).1.2.2.2.2.1, (okC b hb).1.2.2.2.2.2⟩
      have away : G5 sC.heap.objs.size = none := by
        have z : G5 env.locals = none := inv6.free
        rwa [locE] at z
      obtain ⟨mm, hns, _⟩ := inv6.loc
      have hns : s6.heap.Ns env.locals mm := hns
      rw [locE] at hns
      obtain ⟨f0, f1, f2, f3, f4, f5⟩ := invC.fpOk (Nat.le_refl _) away
      exact ⟨mm, hns, fun h'' sb => ⟨.ref A, G5, invO.turned (t' := s6.toks) (fun b o hb e => (sb.2 b hb).trans e) f0 f1 f3 f4 f5, rfl, qq⟩⟩
    · refine thnF (turns.item (X.blk sC GC scope env fp) rfl rfl rfl calm i [] s5 _ G5 (fun _ _ => False) inv5 (still inv5 none5) st5 go) ?_
      rintro r s6 ⟨u, rfl, h6⟩
      refine thnF h6 ?_
      rintro _ s7 ⟨x, G7, inv7, r7, y7, st7, none7⟩
      have pinned := inv7.pinned (still inv7 none7) (turns.obj _ _ st7)
      refine thnF (dTg.run _ s7 _ G7 x u _ pinned r7 (turn x G7 y7)) ?_
      rintro _ s8 ⟨τ8, G8, inv8, hw8, q8⟩
      refine thnF (dTst.run _ s8 τ8 G8 _ inv8 q8) ?_
      rintro b s9 ⟨G9, inv9, q9⟩
      have close : ∀ {s' : Shared} {G' : Hp}, Inv (X.blk sC GC scope env fp) ([] ++ pinsAt fp s7.heap) τ8 G' s' → Z G' → ∃ m, m < n ∧ ∃ i G', Inv (X.blk sC GC scope env fp) [] (wipe σ (own.map (·.2))) G' s' ∧ tn i s'.heap ∧ (∀ b ∈ fp, G' b = none) ∧ P i m G' := by
        intro s' G' inv' z
        obtain ⟨m', lt, p'⟩ := hZ G' z
        have at_ : ∀ b ∈ fp, ∀ o, s7.heap.get? b = some o → s'.heap.get? b = some o ∧ G' b = none := fun b hb o e =>
          ⟨(inv'.pin (b, o) (List.mem_append_right _ (List.mem_append_right _ (mem_pinsAt hb e)))).1, (inv'.pin (b, o) (List.mem_append_right _ (List.mem_append_right _ (mem_pinsAt hb e)))).2.1⟩
        refine ⟨m', lt, i + 1, G', (inv'.unpinned (pins := [])).weak (by rw [← hw8, wipe_length]) (fun j v e => (wipe_some (hw8 ▸ e)).1), turns.keep _ _ _ st7 fun b hb o e => (at_ b hb o e).1, fun b hb => ?_, p'⟩
        obtain ⟨o, e, _⟩ := turns.obj _ _ st7 b hb
        exact (at_ b hb o e).2
      cases b with
      | false => exact close inv9 (by simpa using q9)
      | true =>
        simp only [if_true] at q9 ⊢
        refine thnF (dVal.run _ s9 τ8 G9 _ inv9 q9) ?_
        rintro z s10 ⟨yv, G10, inv10, r10, k, S, n0, rfl, hA10, room, nx⟩
        refine thnF (mt_sadd _ s10 τ8 G10 (.ref A) [.int k] (.ref A) [z] (fun _ G' => Z G') inv10 rfl (.cons r10 .nil) ⟨A, k, S, n0, rfl, rfl, hA10, room, nx⟩) ?_
        rintro v s11 ⟨_, G11, inv11, _, z11⟩
        exact close inv11 z11
  exact goal
/-- len of such a set -/
theorem call_lenSet {X : Cx} : CallR X (.builtin "len") (fun xs H Q => ∃ a S n, xs = [V.ref a] ∧ H a = some (SetO X.w a S n) ∧ Q (.int (n : Nat)) H) := by
  intro pins s σ H xs us Q I r h
  obtain ⟨a, S, n, rfl, ha, q⟩ := h
  obtain ⟨u, rfl, rx⟩ := vals1 r
  obtain rfl : u = Value.ref a := rx
  obtain ⟨o, es, ep, t, ho, hex, hd, _, _, _, small, hf, hn, _⟩ := setO_get I ha
  have sm : es.size < 2 ^ 63 := by unfold scanBound at small; omega
  refine call_len_set ho hex hd hf (by exact_mod_cast sm) ?_
  exact ⟨.int (n : Nat), H, I.tok _, ⟨_, by rw [hn]⟩, q⟩
end
end L2

set_option Elab.async false
set_option linter.all false
set_option maxRecDepth 100000
set_option maxHeartbeats 2000000
namespace DL
open PySem L2 PySem.Spec PyProof.Rows
/-- len({e for x in xs ..}), whole numbers -/
def dSetN (ti : DTI) (g : DTG) (tt : DTT) (te : DTE) (vs : List Nat) : DTE := fun δ μ q => ti δ μ fun items keep μ1 => ∃ P : Nat → List Int → Mu → Prop, P 0 [] μ1 ∧ (∀ i l μ, i ≤ items.length → P i l μ → keep μ ∧ l.length + 1 < 4096) ∧
  (∀ i d l μ, items[i]? = some d → P i l μ → g d (wipeD δ vs) μ fun δ2 μ2 => tt δ2 μ2 fun b μ3 => if b = true then te δ2 μ3 fun y μ4 => ∃ k, y = .int k ∧ P (i + 1) (l ++ [k]) μ4 else P (i + 1) l μ3) ∧
  ∀ l μ, P items.length l μ → ∀ out : List Int, out.Nodup → (∀ k, k ∈ out ↔ k ∈ l) → q (.int (out.length : Nat)) μ
/-- what such a set has: the members of a list -/
structure SetOf (S : Int → Bool) (n : Nat) (l : List Int) : Prop where
  ex : ∃ out : List Int, out.Nodup ∧ (∀ k, k ∈ out ↔ k ∈ l) ∧ out.length = n
  mem : ∀ k, S k = true ↔ k ∈ l
theorem SetOf.nil : SetOf noneI 0 [] := ⟨⟨[], .nil, fun _ => Iff.rfl, rfl⟩, fun k => by simp [noneI]⟩
theorem SetOf.snoc {S : Int → Bool} {n : Nat} {l : List Int} (h : SetOf S n l) (k : Int) : SetOf (oneMore S k) (upN S k n) (l ++ [k]) := by
  obtain ⟨⟨out, nd, hm, hn⟩, mem⟩ := h
  refine ⟨?_, fun j => ?_⟩
  · unfold upN
    by_cases hS : S k = true
    · rw [if_pos hS]
      refine ⟨out, nd, fun j => ?_, hn⟩
      rw [List.mem_append, hm j]
      constructor
      · exact .inl
      · rintro (h | h)
        · exact h
        · rw [List.mem_singleton.mp h]; exact (mem k).mp hS
    · rw [if_neg hS]
      refine ⟨out ++ [k], ?_, fun j => ?_, by simp [hn]⟩
      · rw [List.nodup_append]
        refine ⟨nd, by simp, fun x hx y hy e => ?_⟩
        rw [List.mem_singleton.mp hy] at e
        exact hS ((mem k).mpr ((hm k).mp (e ▸ hx)))
      · rw [List.mem_append, List.mem_append, hm j]
  · unfold oneMore
    rw [Bool.or_eq_true, decide_eq_true_eq, mem j, List.mem_append, List.mem_singleton]
theorem nodup_le : ∀ {l m : List Int}, l.Nodup → (∀ x ∈ l, x ∈ m) → l.length ≤ m.length
  | [], m, _, _ => Nat.zero_le _
  | a :: l, m, nd, s => by
    obtain ⟨n1, n2⟩ := List.nodup_cons.mp nd
    have ha := s a List.mem_cons_self
    have : l.length ≤ (m.erase a).length := nodup_le n2 fun x hx => by
      have hne : x ≠ a := fun z => n1 (z ▸ hx)
      exact (List.mem_erase_of_ne hne).mpr (s x (List.mem_cons_of_mem _ hx))
    rw [List.length_erase_of_mem ha] at this
    have : 0 < m.length := List.length_pos_of_mem ha
    rw [List.length_cons]; omega
theorem SetOf.le {S : Int → Bool} {n : Nat} {l : List Int} (h : SetOf S n l) : n ≤ l.length := by
  obtain ⟨⟨out, nd, hm, hn⟩, _⟩ := h
  rw [← hn]
  exact nodup_le nd fun x hx => (hm x).mp hx
section
variable {O : Org} {X : Cx}
theorem lsetI {K : PySem.W.Frag} {w : World} {ti : DTI} {g : DTG} {tt : DTT} {te : DTE} {ws vs : List Nat} (hw : ∀ i ∈ ws, i ∈ vs) : ∀ σ H Q, LE K O (dSetN ti g tt te vs) σ H Q →
    tSetI w (LI K O ti) (LGw K O ws g) (LT K O tt) (LE K O te) vs σ H (fun x G => ∃ a S n, x = V.ref a ∧ G a = some (SetO w a S n) ∧ Q (.int (n : Nat)) G) := fun σ H Q ⟨F, δ, μ, q, hd, rs, t, k⟩ =>
  ⟨F, δ, μ, _, hd, rs, t, fun F1 H1 μ1 items keep J e1 hd1 ok ⟨P, p0, pk, step, fin⟩ => by
    intro A hA
    have nG : ¬ F1.G A := hd1.nf hA
    refine ⟨fun i m H' => m = items.length - i ∧ i ≤ items.length ∧ ∃ F2 l S n μ2, Ext F1 H1 F2 H' ∧ Hd K O F2 H' μ2 ∧ ¬ F2.G A ∧ μ2 A = none ∧ H' A = some (SetO w A S n) ∧ SetOf S n l ∧ P i l μ2, ⟨_, rfl, Nat.zero_le _, F1, [], noneI, 0, μ1, ext_new hd1 hA, ⟨hd1.org.trans (ext_new hd1 hA), fun a f => ?_, fun a m e => ?_⟩, nG, hd1.free hA, upd_same, .nil, p0⟩, ?_⟩
    · have z : a ≠ A := fun z => nG (z ▸ f)
      rw [upd_ne z]; exact hd1.fr a f
    · have z : a ≠ A := fun z => by rw [z, hd1.free hA] at e; cases e
      exact ⟨(hd1.own a m e).1, (hd1.own a m e).2.ext (ext_new hd1 hA) (upd_ne z)⟩
    rintro i m H2 ⟨rfl, hi, F2, l, S, n, μ2, e2, hd2, nA, mA, hA2, so, p2⟩
    obtain ⟨kk, hsz⟩ := pk i l μ2 hi p2
    by_cases hlt : i < items.length
    · refine .inr ⟨ok.go i F2 H2 μ2 e2 hd2 kk hlt, fun H' => ∃ F2 l S n μ2, Ext F1 H1 F2 H' ∧ Hd K O F2 H' μ2 ∧ ¬ F2.G A ∧ μ2 A = none ∧ H' A = some (SetO w A S n) ∧ SetOf S n l ∧ P (i + 1) l μ2, fun H' q => ⟨_, by omega, rfl, hlt, q⟩, fun x H3 hy => ?_⟩
      have ep : Ext F2 H2 (addG F2 A) H2 := ⟨fun _ f => f, fun _ f => .inl f, fun _ _ => rfl, fun _ _ f => f⟩
      have hdp : Hd K O (addG F2 A) H2 μ2 := by
        refine ⟨hd2.org.trans ep, fun a f => f.elim (hd2.fr a) fun z => by rw [z, hA2]; simp, fun a m e => ?_⟩
        have z : a ≠ A := fun z => by rw [z, mA] at e; cases e
        exact ⟨fun f => f.elim (hd2.own a m e).1 z, (hd2.own a m e).2.ext ep rfl⟩
      obtain ⟨F3, d, e3, hd3, hd', r3⟩ := ok.yld i (addG F2 A) H2 μ2 x H3 (e2.trans ep) hdp kk hlt hy
      have e03 := (e1.trans (e2.trans ep)).trans e3
      refine ⟨F3, d, wipeD δ vs, μ2, _, hd3, (rs.wipe vs).ext e03, r3, step i d l μ2 hd' p2, fun F4 H4 μ4 δ4 σ4 e4 hd4 rs4 a4 t4 => ⟨(wipe_agr (a4.mono hw)).trans (wipe_wipe σ vs), F4, δ4, μ4, _, hd4, rs4, t4, fun F5 H5 μ5 b e5 hd5 t5 => ?_⟩⟩
      have e25 : Ext (addG F2 A) H2 F5 H5 := (e3.trans e4).trans e5
      have shut : ∀ F6 H6 μ6, Ext (addG F2 A) H2 F6 H6 → Hd K O F6 H6 μ6 → ∀ (l' : List Int) (S' : Int → Bool) (n' : Nat), SetOf S' n' l' → P (i + 1) l' μ6 →
          ∃ F7 l7 S7 n7 μ7, Ext F1 H1 F7 (upd H6 A (SetO w A S' n')) ∧ Hd K O F7 (upd H6 A (SetO w A S' n')) μ7 ∧ ¬ F7.G A ∧ μ7 A = none ∧ (upd H6 A (SetO w A S' n')) A = some (SetO w A S7 n7) ∧ SetOf S7 n7 l7 ∧ P (i + 1) l7 μ7 := by
        intro F6 H6 μ6 e6 hd6 l' S' n' so' p'
        have nf : ¬ F6.F A := fun f => nA (F2.sub A (e6.o A (.inr rfl) f))
        have mA6 : μ6 A = none := by
          cases e : μ6 A with
          | none => rfl
          | some m => exact absurd (e6.g A (.inr rfl)) (hd6.own A m e).1
        have le : Le F6 H6 (remG F6 A nf) (upd H6 A (SetO w A S' n')) := ⟨fun _ f => f, fun {a} f => upd_ne fun z => nf (z ▸ f)⟩
        have ex1 : Ext F1 H1 (remG F6 A nf) (upd H6 A (SetO w A S' n')) := ⟨fun a f => e6.f a (e2.f a f), fun a f => ⟨e6.g a (.inl (e2.g a f)), fun z => nG (z ▸ f)⟩, fun a f => by
          have z : a ≠ A := fun z => nG (z ▸ f)
          rw [upd_ne z, e6.h a (.inl (e2.g a f)), e2.h a f], fun a f k => e2.o a f (e6.o a (.inl (e2.g a f)) k)⟩
        refine ⟨remG F6 A nf, l', S', n', μ6, ex1, ⟨hd1.org.trans ex1, fun a f => ?_, fun a m e => ?_⟩, fun f => f.2 rfl, mA6, upd_same, so', p'⟩
        · rw [upd_ne f.2]; exact hd6.fr a f.1
        · have z : a ≠ A := fun z => by rw [z, mA6] at e; cases e
          exact ⟨fun f => (hd6.own a m e).1 f.1, (hd6.own a m e).2.mv le (upd_ne z)⟩
      cases b with
      | true =>
        rw [if_pos rfl] at t5
        dsimp only
        rw [if_pos rfl]
        refine ⟨F5, δ4, μ5, _, hd5, rs4.ext e5, t5, fun F6 H6 μ6 y v e6 hd6 r6 ⟨kv, ey, t6⟩ => ?_⟩
        subst ey
        have e26 := e25.trans e6
        have sm := so.le
        exact ⟨kv, S, n, r6, (e26.h A (.inr rfl)).trans hA2, by unfold scanBound; omega, shut F6 H6 μ6 e26 hd6 (l ++ [kv]) _ _ (so.snoc kv) t6⟩
      | false =>
        rw [if_neg Bool.false_ne_true] at t5
        dsimp only
        rw [if_neg Bool.false_ne_true]
        have c := shut F5 H5 μ5 e25 hd5 l S n so t5
        have eu : upd H5 A (SetO w A S n) = H5 := by
          funext b
          unfold upd
          split
          · rename_i e; rw [e, (e25.h A (.inr rfl)).trans hA2]
          · rfl
        rw [eu] at c
        exact c
    · have e : i = items.length := by omega
      subst e
      obtain ⟨⟨out, nd, hm, hn⟩, _⟩ := so
      refine .inl ⟨ok.stop _ F2 H2 μ2 e2 hd2 kk (Nat.le_refl _), A, S, n, rfl, hA2, ?_⟩
      have := fin l μ2 p2 out nd hm
      rw [hn] at this
      exact k F2 H2 μ2 (.int (n : Nat)) _ (e1.trans e2) hd2 rep_int this⟩
theorem de_lenSetC {elt tg iter : Expr} {ifs : List Expr} {scope : Scope} {own : List (PySem.Str × Nat)} {p pos pos2 : Pos} {ti : DTI} {g : DTG} {tt : DTT} {te : DTE} {ws : List Nat} (hgl : Gl X "len") (hml : X.mg "len" = none) (hc : X.calm = true) (hN : X.N.Nodup) (hi : DI O X tg iter ti) (ok : BlkOk X.N X.env.scope scope own) (hw : ∀ i ∈ ws, i ∈ own.map (·.2))
    (hg : ∀ (s : Shared) (H : Hp) (C : Addr) (cl : List (PySem.Str × Addr)) (fp : List Addr), DGw O (X.blk s H scope (compEnvC scope cl C X.env) fp) tg ws g) (ht : ∀ (s : Shared) (H : Hp) (C : Addr) (cl : List (PySem.Str × Addr)) (fp : List Addr), DTs O (X.blk s H scope (compEnvC scope cl C X.env) fp) ifs tt)
    (he : ∀ (s : Shared) (H : Hp) (C : Addr) (cl : List (PySem.Str × Addr)) (fp : List Addr), DE O (X.blk s H scope (compEnvC scope cl C X.env) fp) elt te) (hs : ∀ x, foldedSetIterable iter X.env x = pure x := by intro _; rfl)
    (na : starEach [Expr.SetComp elt [⟨tg, iter, ifs, 0⟩] scope pos] X.env = (false, eval (.SetComp elt [⟨tg, iter, ifs, 0⟩] scope pos) X.env) :: starEach [] X.env := by rfl) (hpl : (backTo pos2 (starEach [] X.env)).any (·.1) = false := by rfl) :
    DE O X (.Call (.Name "len" p) [.SetComp elt [⟨tg, iter, ifs, 0⟩] scope pos] [] pos2) (dSetN ti g tt te (own.map (·.2))) :=
  pe_weak (pe_callB call_lenSet hgl hml PySem.boot_len (pa_cons (pe_setI hc hN hi ok hg ht he hs) pa_nil na) (by decide) (by decide) na hpl) fun σ H Q h => by
    have k := lsetI (w := X.w) hw σ H Q h
    unfold tSetI at k
    show LI X.K O ti σ H _
    obtain ⟨F, δ, μ, q, hd, rs, t, kk⟩ := k
    refine ⟨F, δ, μ, q, hd, rs, t, fun F' H' μ' items keep J e1 hd1 ok1 q1 A hA => ?_⟩
    obtain ⟨P, p0, st⟩ := kk F' H' μ' items keep J e1 hd1 ok1 q1 A hA
    refine ⟨P, p0, fun i m G pG => ?_⟩
    rcases st i m G pG with ⟨s1, a, S, n, ea, hS, qq⟩ | s2
    · cases ea
      exact .inl ⟨s1, A, S, n, rfl, hS, qq⟩
    · exact .inr s2
end
end DL

set_option Elab.async false
set_option linter.all false
set_option maxRecDepth 100000
set_option maxHeartbeats 2000000
namespace L2
open PySem PySem.Spec PyProof.Rows
theorem call_set_listI {P : Program} {w : World} {A : Around} {E : Value → Shared → Prop} {s : Shared} {l : Addr} {items : Array Value} (ns : List Int) {Q : Value → Shared → Prop} (hh : A.handled = none) (hl : s.heap.IsList l items) (hit : IntsAre items.toList ns) (hb : ns.length + 1 < scanBound)
    (h : ∀ (h' : Heap) (tk c : Nat), SetR w h' s.heap.objs.size (fun j => decide (j ∈ ns)) c → c ≤ ns.length → (∀ b o, s.heap.get? b = some o → h'.get? b = some o) → Q (.ref s.heap.objs.size) { heap := h', gens := s.gens, drawn := s.drawn, toks := tk, os := s.os }) :
    wpAny (model P w) A (call (.type "set") [.ref l]) Q E s := by
  have hisz : items.size = ns.length := by have q := hit.length; rwa [Array.length_toList] at q
  obtain ⟨c, tl, hmro⟩ := F.called_set.mro
  have hmade := F.called_set.made
  have hsub := F.called_set.sub
  refine wpAny_call (codeAny_of_tree ?_)
  refine wpAny_pure ⟨Code.quiet_builtin _ (by decide +kernel), codeAny_builtin F.entry_type_call ?_⟩
  rw [Around.under_plain (weight_type_call_type "set" [.ref l] []) rfl]
  have hct := F.typeCall_set_1 (.ref l)
  unfold Builtin.«type.__call__»
  dsimp only
  refine wpAny_ite_false rfl ?_
  refine wpAny_ite_false rfl ?_
  refine wpAny_bind (wpAny_of_eq hct ?_)
  refine wpAny_bind (wpAny_of_eq hmro ?_)
  refine wpAny_ite_false rfl ?_
  refine wpAny_bind (wpAny_of_eq hmade ?_)
  refine wpAny_bind (wpAny_pure ?_)
  refine wpAny_bind (wpAny_holding ?_)
  refine wpAny_call (codeAny_mono (code_set_led1 (E := E) (Q₁ := fun v s' => v = .ref s.heap.objs.size ∧ s' = { heap := s.heap.push { cls := .type "set", data := .set #[] 0 (SetTable.fresh 0 0 !w.params.followText "set-order") }, gens := s.gens, drawn := s.drawn, toks := s.toks, os := s.os }) (.ref l) ⟨rfl, rfl⟩) fun r s₁ hr => ?_)
  rcases r with e | fl
  · exact hr
  rcases fl with _ | _ | _ | v
  · exact hr.elim
  · exact hr.elim
  · exact hr.elim
  obtain ⟨rfl, rfl⟩ := hr
  dsimp only
  have hS := Heap.get?_push_size s.heap (o := { cls := .type "set", data := .set #[] 0 (SetTable.fresh 0 0 !w.params.followText "set-order") }) rfl
  generalize hso : ({ cls := .type "set", data := .set #[] 0 (SetTable.fresh 0 0 !w.params.followText "set-order") } : Obj) = so at hS ⊢
  have hcls : so.cls = .type "set" := by rw [← hso]
  have hdat : so.data = .set #[] 0 (SetTable.fresh 0 0 !w.params.followText "set-order") := by rw [← hso]
  have hT : ({ heap := s.heap.push so, gens := s.gens, drawn := s.drawn, toks := s.toks, os := s.os } : Shared).TypeIs (.ref s.heap.objs.size) "set" := ⟨so, hS, hcls⟩
  have hli := F.called_set.init.lookup
  have hbi := F.called_set.init.bind (.ref s.heap.objs.size)
  refine wpAny_bind (wpAny_isInstance hT hsub ?_)
  refine wpAny_ite_false rfl ?_
  refine wpAny_bind (wpAny_holding ?_)
  unfold callSpecial?
  refine wpAny_bind (wpAny_specialOf hT hli ?_)
  refine wpAny_holding (wpAny_bind (wpAny_of_eq hbi ?_))
  dsimp only
  refine wpAny_bind ?_
  refine wpAny_call (codeAny_mono (codeAny_call_builtin (R := fun r s' => r = .ok (.ret .none) ∧ ∃ (h' : Heap) (tk c' : Nat), s' = { heap := h', gens := s.gens, drawn := s.drawn, toks := tk, os := s.os } ∧ SetR w h' s.heap.objs.size (fun j => decide (j ∈ ns)) c' ∧ c' ≤ ns.length ∧ ∀ b o, s.heap.get? b = some o → h'.get? b = some o) F.called_set.init.plain F.entry_set_init (check_set_init_1 hT ?_)) fun r₂ s₂ hr₂ => ?_)
  rotate_left
  · obtain ⟨rfl, h', tk, c', rfl, h1, h2, h3⟩ := hr₂
    dsimp only
    refine wpAny_pure ?_
    dsimp only
    refine wpAny_ite_false rfl ?_
    exact wpAny_pure (h h' tk c' h1 h2 h3)
  unfold Builtin.«set.__init__»
  dsimp only
  obtain ⟨ol, hol, hcl, nl, hdl⟩ := hl
  have hol' := Heap.get?_push_of_some so hol
  have hsls := F.sub_list_set
  have hslf := F.sub_list_frozenset
  have hl1 : (s.heap.push so).IsList l items := ⟨ol, hol', hcl, nl, hdl⟩
  have hne : l ≠ s.heap.objs.size := Nat.ne_of_lt (Heap.lt_size hol)
  unfold noKeywords
  refine wpAny_bind (wpAny_ite_true rfl (wpAny_pure ?_))
  dsimp only [List.cons_append, List.nil_append]
  refine wpAny_bind ?_
  unfold typeNameOfCut
  refine wpAny_bind ?_
  unfold shownTypeOf
  refine wpAny_bind (wpAny_typeOf hT ?_)
  refine wpAny_ite_false rfl ?_
  refine wpAny_pure ?_
  unfold typeNameCut
  dsimp only
  unfold typeName
  dsimp only
  refine wpAny_pure ?_
  refine wpAny_bind ?_
  unfold checkCount
  refine wpAny_ite_false rfl (wpAny_ite_false rfl (wpAny_ite_false rfl (wpAny_pure ?_)))
  refine wpAny_bind ?_
  unfold Builtin.Frozenset.addrOf
  refine wpAny_pure ?_
  refine wpAny_bind ?_
  unfold setUsed
  refine wpAny_bind ?_
  unfold setState
  refine wpAny_bind (wpAny_load' hS ?_)
  rw [hdat]
  dsimp only
  refine wpAny_ite_false rfl ?_
  refine wpAny_pure ?_
  refine wpAny_pure ?_
  refine wpAny_ite_false rfl ?_
  refine wpAny_bind ?_
  unfold Builtin.Frozenset.updateFrom
  refine wpAny_bind ?_
  unfold Builtin.Frozenset.isAnySet
  have hTl : ({ heap := s.heap.push so, gens := s.gens, drawn := s.drawn, toks := s.toks, os := s.os } : Shared).TypeIs (.ref l) "list" := ⟨ol, hol', hcl⟩
  unfold orM
  refine wpAny_bind (wpAny_isInstance hTl hsls ?_)
  dsimp only [toBool]
  refine wpAny_isInstance hTl hslf ?_
  refine wpAny_ite_false rfl ?_
  refine wpAny_bind (wpAny_typeOf hTl ?_)
  refine wpAny_ite_false rfl ?_
  refine wpAny_bind (wpAny_pyIter_list hl1 ?_)
  refine wpAny_bind (wpAny_runValue ?_)
  have hz1 := Heap.size_push s.heap so
  have hneI : l ≠ (s.heap.push so).objs.size := by rw [hz1]; exact Nat.ne_of_lt (Nat.lt_succ_of_lt (Heap.lt_size hol))
  have hSI : ¬ s.heap.objs.size ∈ [(s.heap.push so).objs.size, l] := by
    rw [List.mem_cons, List.mem_singleton, hz1]
    rintro (z | z)
    · exact absurd z (Nat.ne_of_lt (Nat.lt_succ_self _))
    · exact hne z.symm
  have hh3 : A.in1.in1.in1.handled = none := hh
  have hP : ∀ (i : Nat) (v : Value), items[i]? = some v → ∃ k t, ns[i]? = some k ∧ v = .int k t := fun i v hv => by
    have hi : i < ns.length := by rw [← hisz]; exact (Array.getElem?_eq_some_iff.mp hv).1
    obtain ⟨t, e⟩ := IntsAre.int_at hit i v (by rw [Array.getElem?_toList]; exact hv)
    exact ⟨ns[i], t, List.getElem?_eq_getElem hi, by rw [e, List.getD_eq_getElem?_getD, List.getElem?_eq_getElem hi]; rfl⟩
  have hget := Heap.get?_push_of_some { cls := .type "list_iterator", data := .fields #[.ref l, .int 0 0] } hS
  refine set_update_ints (Walks.toS (Walks.list hh3 ((s.heap.push so).objs.size) l hneI items)) s.heap.objs.size hSI ns hisz hb hP items.size 0 _ (by omega) (Nat.zero_le _) ⟨?_, ?_⟩ ⟨0, Nat.le_refl 0, ?_⟩ fun s' c' hm hc hS' => ?_
  · exact ⟨_, Heap.get?_push_size _ rfl, rfl, rfl⟩
  · exact hl1.push _
  · subst hso
    exact setR_new_at hget
  · obtain ⟨h', g', d', tk', os'⟩ := s'
    have eg := hm.gens
    have ed := hm.drawn
    have eo := hm.os
    dsimp only at eg ed eo
    subst eg ed eo
    dsimp only
    refine wpAny_pure ?_
    refine wpAny_pure ?_
    refine ⟨rfl, h', tk', c', rfl, hS', by omega, fun b o e => ?_⟩
    refine hm.heap b o ?_ (Heap.get?_push_of_some _ (Heap.get?_push_of_some so e))
    rw [List.mem_cons, List.mem_singleton, hz1]
    have := Heap.lt_size e
    rintro (z | z)
    · exact absurd z (Nat.ne_of_lt this)
    · exact absurd z (Nat.ne_of_lt (Nat.lt_succ_of_lt this))
/-- set(xs), whole numbers -/
def rSetOf (K : PySem.W.Frag) (w : World) : List V → Hp → VK → Prop := fun xs H Q => ∃ l ns, xs = [.ref l] ∧ SqL K H l (List.map V.int ns) ∧ ns.length < 4000 ∧ ∀ A S n, H A = none → (∀ k, S k = true ↔ k ∈ ns) → n ≤ ns.length → Q (.ref A) (upd H A (SetO w A S n))
theorem cr_setOf {X : Cx} (hc : X.calm = true) : CallR X (.type "set") (rSetOf X.K X.w) := by
  intro pins s σ H xs us Q I r h
  obtain ⟨l, ns, rfl, hq, hl, q⟩ := h
  obtain ⟨u, rfl, rx⟩ := vals1 r
  obtain rfl : u = Value.ref l := rx
  obtain ⟨its, rv, pl, hz⟩ := I.list hq
  refine call_set_listI ns (I.ok.hd hc) pl.isList (by simpa using RZ.intsAre_vals rv) (by unfold scanBound; omega) fun h' tk c hS hn hk => ?_
  exact ⟨.ref s.heap.objs.size, _, I.laid hk (Nat.le_refl _) (setO_new hS), rfl, q _ _ _ (I.hok.fresh (Nat.le_refl _)) (fun k => by rw [decide_eq_true_eq]) hn⟩
end L2
namespace DL
open PySem L2 PySem.Spec PyProof.Rows
/-- sorted(set(xs)) -/
def dSortSet (ta : DTE) : DTE := fun δ μ q => ta δ μ fun x μ1 => ∃ ns : List Int, lstOf μ1 x = some (ns.map D.int) ∧ ns.length < 64 ∧ ∀ ms : List Int, ms.Pairwise (· < ·) → (∀ k, k ∈ ms ↔ k ∈ ns) → q (.lst (ms.map D.int)) μ1
theorem de_sortSet {O : Org} {X : Cx} {a : Expr} {ta : DTE} {p p2 p3 pos : Pos} (hg : Gl X "sorted") (hm : X.mg "sorted" = none) (hb : PySem.bootBuiltins "sorted" = some (.builtin "sorted")) (hg2 : Gl X "set") (hm2 : X.mg "set" = none) (hb2 : PySem.bootBuiltins "set" = some (.type "set")) (ha : DE O X a ta) (hc : X.calm = true := by rfl)
    (na : starEach [Expr.Call (.Name "set" p2) [a] [] p3] X.env = (false, eval (.Call (.Name "set" p2) [a] [] p3) X.env) :: starEach [] X.env := by rfl) (na2 : starEach [a] X.env = (false, eval a X.env) :: starEach [] X.env := by rfl) (hpl : (backTo pos (starEach [] X.env)).any (·.1) = false := by rfl) (hpl2 : (backTo p3 (starEach [] X.env)).any (·.1) = false := by rfl) : DE O X (.Call (.Name "sorted" p) [.Call (.Name "set" p2) [a] [] p3] [] pos) (dSortSet ta) :=
  pe_weak (pe_callB (cr_sortedSet hc) hg hm hb (pa_cons (pe_callTy (cr_setOf hc) hg2 hm2 hb2 (pa_cons ha pa_nil na2) (by decide) (by decide) na2 hpl2) pa_nil na) (by decide) (by decide) na hpl) fun σ H Q ⟨F, δ, μ, q, hd, rs, t, k⟩ => ⟨F, δ, μ, _, hd, rs, t, fun F1 H1 μ1 x v e1 hd1 r1 ⟨ns, h1, h2, t1⟩ => by
    obtain ⟨l, vs, rfl, h3, h4⟩ := list_sq hd1 r1 h1
    obtain rfl := h4.ints
    refine ⟨l, ns, rfl, h3, by omega, fun A S n hA hS hn => ?_⟩
    have nG : ¬ F1.G A := hd1.nf hA
    have hdp : Hd X.K O F1 (upd H1 A (SetO X.w A S n)) μ1 := by
      refine ⟨hd1.org.trans (ext_new hd1 hA), fun a f => ?_, fun a m e => ?_⟩
      · have z : a ≠ A := fun z => nG (z ▸ f)
        rw [upd_ne z]; exact hd1.fr a f
      · have z : a ≠ A := fun z => by rw [z, hd1.free hA] at e; cases e
        exact ⟨(hd1.own a m e).1, (hd1.own a m e).2.ext (ext_new hd1 hA) (upd_ne z)⟩
    refine ⟨A, S, n, rfl, upd_same, by omega, fun ms p hp hm _ hn => ?_⟩
    exact k _ _ μ1 (.lst (ms.map D.int)) (.ref p) ((e1.trans (ext_new hd1 hA)).trans (ext_newF hdp hn)) (hdp.newF hn) ⟨p, _, rfl, ⟨.inr rfl, upd_same⟩, RepL.of_ints ms⟩ (t1 ms hp (fun k => (hm k).trans (hS k)))⟩
end DL

set_option Elab.async false
set_option linter.all false
set_option maxRecDepth 100000
set_option maxHeartbeats 2000000
/-! DKY: the keys of a dict, walked: from then on it is locked -/
namespace L2
open PySem PySem.Spec PyProof.Rows
def iKeysL (td : TE) : TI := fun σ H R => td σ H fun x H1 => ∃ d kvs, x = .ref d ∧ ((H1 d = some (.dK kvs) ∧ ∀ o, R (Itk d o kvs) (upd H1 d (.frz o (.dK kvs)))) ∨ ∃ o, H1 d = some (.frz o (.dK kvs)) ∧ R (Itk d o kvs) H1)
theorem walk_frz {X : Cx} {tg : Expr} {pins : List (Addr × Obj)} {σ : L2.St} {H : Hp} {s : Shared} {d : Addr} {o : Obj} {kvs : List (Key × V)} {R : It → Hp → Prop} (I : Inv X pins σ H s) (hd : H d = some (.frz o (.dK kvs))) (q : R (Itk d o kvs) H) :
    wpAny (model X.prog X.w) X.A (pyIter (.ref d)) (PIE X pins σ tg R) X.xe s := by
  obtain ⟨hs, hgd, hx, es, ep, vs, hdt, hsz, kv, hm⟩ := I.frzK hd
  refine iter_keys hs hgd hx hdt (pi_one I _ (turn_keys s.heap.objs.size hdt) ⟨_, Heap.get?_push_size s.heap rfl, rfl, ?_⟩ q)
  rw [hsz]; rfl
theorem pi_keysL {X : Cx} {tg e : Expr} {td : TE} (he : PE X e td) : PI X tg e (iKeysL td) := by
  constructor
  intro pins s σ H R I h
  refine thn (he.run pins s σ H _ I h) ?_
  rintro v s1 ⟨x, H1, I1, r1, d, kvs, rfl, hq⟩
  cases r1
  rcases hq with ⟨hd, q⟩ | ⟨o, hd, q⟩
  · obtain ⟨od, I2⟩ := I1.lock hd (by trivial)
    exact walk_frz I2 upd_same (q od)
  · exact walk_frz I1 hd q
theorem lookup_re {env : Env} {x : PySem.Str} : ∀ {l : List (PySem.Str × NameKind)}, (List.lookup x l = some .cell ∨ List.lookup x l = some .free) → List.lookup x (l.map fun p => match p with | (n, k) => if (k == NameKind.free && env.scope.kind == ScopeKind.function && env.kindOf n == some NameKind.cell) = true then (n, NameKind.cell) else (n, k)) = some .cell ∨
    List.lookup x (l.map fun p => match p with | (n, k) => if (k == NameKind.free && env.scope.kind == ScopeKind.function && env.kindOf n == some NameKind.cell) = true then (n, NameKind.cell) else (n, k)) = some .free
  | [], h => by simp at h
  | (n, k) :: r, h => by
    rw [List.map_cons]
    by_cases z : (x == n) = true
    · have e : List.lookup x ((n, k) :: r) = some k := by rw [List.lookup_cons, z]
      rw [e] at h
      dsimp only
      split
      · left; rw [List.lookup_cons, z]
      · rw [List.lookup_cons, z]; exact h
    · have z : (x == n) = false := by simpa using z
      have e : List.lookup x ((n, k) :: r) = List.lookup x r := by rw [List.lookup_cons, z]
      rw [e] at h
      have ih := lookup_re (env := env) h
      dsimp only
      split
      · rw [List.lookup_cons, z]; exact ih
      · rw [List.lookup_cons, z]; exact ih
/-- within a comprehension -/
theorem blkOk_re {N : List PySem.Str} {sc : Scope} {env : Env} {scope : Scope} {own : List (PySem.Str × Nat)} (h : BlkOk N sc scope own) : BlkOk N (relabel sc env) scope own :=
  ⟨h.kind, h.uniq, h.ix, fun y hy hf => lookup_re (h.free y hy hf), h.own⟩
end L2
namespace DL
open PySem L2
def keyB : Key → D
  | .inl i => .int i
  | .inr x => .str x
/-- for k in d -/
def diDk (te : DTE) : DTI := fun δ μ q => te δ μ fun x μ1 => match x with
  | .adr p => (∃ kvs, μ1 p = some (.dic kvs) ∧ ∀ u, q (kvs.map fun kv => keyB kv.1) (fun μ => μ p = some (.dkl u kvs)) (updM μ1 p (.dkl u kvs))) ∨
    ∃ u kvs, μ1 p = some (.dkl u kvs) ∧ q (kvs.map fun kv => keyB kv.1) (fun μ => μ p = some (.dkl u kvs)) μ1
  | _ => False
theorem rep_keyB {K : PySem.W.Frag} {F : Zo} {H : Hp} (k : Key) : Rep K F H (keyB k) (kV k) := by
  cases k
  · exact rfl
  · exact rfl
theorem itok_keys {O : Org} {K : PySem.W.Frag} {F : Zo} {H : Hp} {p : Addr} {o : Obj} {kvs : List (Key × D)} {vs : List V} (hl : kvs.length = vs.length) :
    ItOk K O F H (kvs.map fun kv => keyB kv.1) (fun μ => μ p = some (.dkl (.frz o (.dK ((kvs.map (·.1)).zip vs))) kvs)) (Itk p o ((kvs.map (·.1)).zip vs)) := by
  have len : ((kvs.map (·.1)).zip vs).length = kvs.length := by rw [List.length_zip, List.length_map]; omega
  refine ⟨fun i F2 H2 μ2 e hd k h => ?_, fun i F2 H2 μ2 x H3 e hd k h ⟨h1, kk, vv, h2, h3⟩ => ?_, fun i F2 H2 μ2 e hd k h => ?_⟩
  · obtain ⟨_, o2, ws, w1, w2, w3⟩ := hd.own p _ k
    refine ⟨w1, ?_⟩
    rw [len]; rw [List.length_map] at h; exact h
  · subst h1 h3
    refine ⟨F2, keyB kk, Ext.refl _ _, hd, ?_, rep_keyB kk⟩
    rw [List.length_map] at h
    obtain ⟨hlt, e2⟩ := List.getElem?_eq_some_iff.mp h2
    rw [List.getElem_zip] at e2
    have e3 : kvs[i].1 = kk := by
      have := congrArg Prod.fst e2
      simpa using this
    rw [List.getElem?_map, List.getElem?_eq_getElem h, Option.map_some, e3]
  · obtain ⟨_, o2, ws, w1, w2, w3⟩ := hd.own p _ k
    refine ⟨w1, ?_⟩
    rw [len]; rw [List.length_map] at h; exact h
theorem di_dk {O : Org} {X : Cx} {tg e : Expr} {te : DTE} (he : DE O X e te) : DI O X tg e (diDk te) := pi_weak (pi_keysL he) fun σ H R ⟨F, δ, μ, q, hd, rs, t, k⟩ =>
  ⟨F, δ, μ, _, hd, rs, t, fun F1 H1 μ1 d v e1 hd1 r1 t1 => by
    cases d <;> first | exact False.elim t1 | skip
    rename_i p
    obtain rfl : v = .ref p := r1
    rcases t1 with ⟨kvs, hm, t1⟩ | ⟨u, kvs, hm, t1⟩
    · obtain ⟨ng, vs, h1, h2⟩ := hd1.own p _ hm
      have hl : kvs.length = vs.length := by have := h2.length; rw [List.length_map] at this; exact this
      refine ⟨p, _, rfl, .inl ⟨h1, fun o => ?_⟩⟩
      have ex := ext_set (o := HO.frz o (.dK ((kvs.map (·.1)).zip vs))) hd1 hm
      have hd2 := hd1.set (m' := .dkl (HO.frz o (.dK ((kvs.map (·.1)).zip vs))) kvs) hm ⟨o, vs, upd_same, rfl, h2.ext ex⟩
      exact k F1 _ _ _ _ _ (e1.trans ex) hd2 (itok_keys hl) (t1 _)
    · obtain ⟨ng, o, vs, h1, rfl, h2⟩ := hd1.own p _ hm
      have hl : kvs.length = vs.length := by have := h2.length; rw [List.length_map] at this; exact this
      exact ⟨p, _, rfl, .inr ⟨o, h1, k F1 _ _ _ _ _ e1 hd1 (itok_keys hl) t1⟩⟩⟩
end DL

set_option Elab.async false
set_option linter.all false
set_option maxRecDepth 100000
set_option maxHeartbeats 2000000
/-! DMX: max(l, default = d): the loop behind the first value -/
namespace L2
open PySem PySem.Spec PyProof.Rows
theorem max_loopD {prog : Program} {w : World} {A : Around} {R : Result → Shared → Prop} {I : Addr} {fp wr : List Addr} {n : Nat} {P : Nat → Value → Prop} {St : Nat → Heap → Prop} (W : Walks prog w A.in1 I fp wr n P St) (bt : Nat → Nat → Bool) (hcmp : CmpOf prog w A.in1 CmpOp.Gt P bt) (S : Addr) (hSf : ¬ S ∈ fp) (kw : List (PySem.Str × Value)) :
    ∀ (k j : Nat) (s : Shared) (vb : Value) (c : Nat), n - (j + 1) = k → j + 1 ≤ n → St (j + 1) s.heap → P (argBest bt j) vb → s.heap.get? S = some { cls := .type "list", data := .seq #[vb, vb] c } →
      (∀ (v : Value) (h' : Heap) (tk : Nat), P (argBest bt (n - 1)) v → (∀ b o, ¬ b ∈ wr → b ≠ S → s.heap.get? b = some o → h'.get? b = some o) → R (.ok (.ret v)) { heap := h', gens := s.gens, drawn := s.drawn, toks := tk, os := s.os }) →
      codeAny (model prog w) A (Code.builtin "max.loop" { pos := [.ref I, .none, .ref S], kw := kw }) R s := by
  have hSw : ¬ S ∈ wr := fun h => hSf (W.sub S h)
  intro k
  induction k with
  | zero =>
    intro j s vb c hk hj hst hP hS hR
    have hin : n = j + 1 := by omega
    subst hin
    refine codeAny_builtin F.entry_max_loop ?_
    rw [Around.under_plainId F.plain_max_loop]
    refine wpAny_bind (wpAny_seqItems hS rfl ?_)
    refine wpAny_bind (wpAny_tryCatch (W.done s _ _ hst fun h' tk hk' => ?_))
    have hS' := hk' S { cls := .type "list", data := .seq #[vb, vb] c } hSw hS
    refine wpAny_bind (wpAny_updateSeq hS' rfl ?_ ?_ ?_)
    · refine wpAny_bind (wpAny_letGo ?_)
      exact wpAny_pure (hR vb _ tk hP fun b o hbw hbS e => (Heap.get?_update_other _ _ (Ne.symm hbS)).trans (hk' b o hbw e))
    · rw [sizeLine_eq]; show 2 ≤ 16777216; decide
    · rw [sizeLine_eq]; show 0 ≤ 16777216 + 1; decide
  | succ k ih =>
    intro j s vb c hk hj hst hP hS hR
    have hlt : j + 1 < n := by omega
    refine codeAny_builtin F.entry_max_loop ?_
    rw [Around.under_plainId F.plain_max_loop]
    refine wpAny_bind (wpAny_seqItems hS rfl ?_)
    refine wpAny_bind (wpAny_tryCatch (W.item (j + 1) s _ _ hlt hst fun v h' tk hv hst' hk' => ?_))
    have hS' := hk' S { cls := .type "list", data := .seq #[vb, vb] c } hSw hS
    refine wpAny_bind (wpAny_pure ?_)
    refine wpAny_bind (wpAny_tryCatch (wpAny_holding ?_))
    refine wpAny_bind (hcmp (j + 1) (argBest bt j) v vb { heap := h', gens := s.gens, drawn := s.drawn, toks := tk, os := s.os } _ _ hv hP ?_)
    refine wpAny_bind (wpAny_holding (wpAny_truthy_bool ?_))
    refine wpAny_bind (wpAny_letGo (wpAny_pure ?_))
    have hname : (toString "max" ++ toString ".loop" : String) = "max.loop" := by decide +kernel
    have ha : argBest bt (j + 1) = if bt (j + 1) (argBest bt j) = true then j + 1 else argBest bt j := rfl
    cases hb : bt (j + 1) (argBest bt j) with
    | false =>
      rw [hb] at ha
      rw [if_neg (by decide)] at ha
      refine wpAny_ite_false rfl ?_
      refine wpAny_bind (wpAny_letGo ?_)
      rw [hname]
      refine wpAny_pure ⟨plainId_quiet F.plain_max_loop _, ih (j + 1) { heap := h', gens := s.gens, drawn := s.drawn, toks := tk, os := s.os } vb c (by omega) hlt hst' (by rw [ha]; exact hP) hS' fun v' h'' tk'' hP' hk'' => hR v' h'' tk'' hP' fun b o hbw hbS e => hk'' b o hbw hbS (hk' b o hbw e)⟩
    | true =>
      rw [hb] at ha
      rw [if_pos rfl] at ha
      refine wpAny_ite_true rfl ?_
      refine wpAny_bind (wpAny_updateSeq hS' rfl ?_ ?_ ?_)
      · refine wpAny_bind (wpAny_letGo ?_)
        rw [hname]
        refine wpAny_pure ⟨plainId_quiet F.plain_max_loop _, ih (j + 1) _ v (if (((fun x => #[v, v]) #[vb, vb] : Array Value).size == (#[vb, vb] : Array Value).size) = true then c else c + 1) (by omega) hlt (W.frame (j + 1 + 1) h' _ hst' fun b hbf o e => (Heap.get?_update_other h' (Obj.mapSeq fun x => #[v, v]) fun h => hSf (by rw [h]; exact hbf)).trans e) (by rw [ha]; exact hv) (Heap.get?_update_self (Obj.mapSeq fun x => #[v, v]) hS' rfl) fun v' h'' tk'' hP' hk'' => hR v' h'' tk'' hP' fun b o hbw hbS e => hk'' b o hbw hbS ((Heap.get?_update_other h' (Obj.mapSeq fun x => #[v, v]) (Ne.symm hbS)).trans (hk' b o hbw e))⟩
      · rw [sizeLine_eq]; show 2 ≤ 16777216; decide
      · rw [sizeLine_eq]; show 2 ≤ 16777216 + 1; decide
theorem max_firstD {prog : Program} {w : World} {A : Around} {R : Result → Shared → Prop} {I : Addr} {fp wr : List Addr} {n : Nat} {P : Nat → Value → Prop} {St : Nat → Heap → Prop} (W : Walks prog w A.in1 I fp wr n P St) (bt : Nat → Nat → Bool) (hcmp : CmpOf prog w A.in1 CmpOp.Gt P bt) (S : Addr) (hSf : ¬ S ∈ fp) (d : Value)
    {s : Shared} {c : Nat} (hst : St 0 s.heap) (hS : s.heap.get? S = some { cls := .type "list", data := .seq #[] c })
    (hR : ∀ (v : Value) (h' : Heap) (tk : Nat), (0 < n → P (argBest bt (n - 1)) v) → (n = 0 → v = d) → (∀ b o, ¬ b ∈ wr → b ≠ S → s.heap.get? b = some o → h'.get? b = some o) → R (.ok (.ret v)) { heap := h', gens := s.gens, drawn := s.drawn, toks := tk, os := s.os }) :
    codeAny (model prog w) A (Code.builtin "max.loop" { pos := [.ref I, .none, .ref S], kw := [("default", d)] }) R s := by
  have hSw : ¬ S ∈ wr := fun h => hSf (W.sub S h)
  have hname : (toString "max" ++ toString ".loop" : String) = "max.loop" := by decide +kernel
  refine codeAny_builtin F.entry_max_loop ?_
  rw [Around.under_plainId F.plain_max_loop]
  refine wpAny_bind (wpAny_seqItems hS rfl ?_)
  by_cases hn : n = 0
  · subst hn
    refine wpAny_bind (wpAny_tryCatch (W.done s _ _ hst fun h' tk hk' => ?_))
    refine wpAny_bind (wpAny_rule ?_)
    refine wpAny_pure ?_
    exact hR d h' tk (fun z => absurd z (by decide)) (fun _ => rfl) fun b o hbw _ e => hk' b o hbw e
  · refine wpAny_bind (wpAny_tryCatch (W.item 0 s _ _ (by omega) hst fun v h' tk hv hst' hk' => ?_))
    have hS' := hk' S { cls := .type "list", data := .seq #[] c } hSw hS
    refine wpAny_bind (wpAny_pure ?_)
    refine wpAny_bind (wpAny_updateSeq hS' rfl ?_ ?_ ?_)
    · rw [hname]
      refine wpAny_pure ⟨plainId_quiet F.plain_max_loop _, max_loopD W bt hcmp S hSf _ (n - 1) 0 _ v _ rfl (by omega) (W.frame 1 h' _ hst' fun b hbf o e => (Heap.get?_update_other h' (Obj.mapSeq fun x => #[v, v]) fun h => hSf (by rw [h]; exact hbf)).trans e) hv (Heap.get?_update_self (Obj.mapSeq fun x => #[v, v]) hS' rfl) fun v' h'' tk'' hP' hk'' => hR v' h'' tk'' (fun _ => hP') (fun z => absurd z hn) fun b o hbw hbS e => hk'' b o hbw hbS ((Heap.get?_update_other h' (Obj.mapSeq fun x => #[v, v]) (Ne.symm hbS)).trans (hk' b o hbw e))⟩
    · rw [sizeLine_eq]; show 0 ≤ 16777216; decide
    · rw [sizeLine_eq]; show 2 ≤ 16777216 + 1; decide
theorem call_maxD {prog : Program} {w : World} {A : Around} {E : Value → Shared → Prop} {s : Shared} {x d : Value} {Q : Value → Shared → Prop} (h : wpAny (model prog w) A.in1 (pyIter x) (fun it s₂ => ∃ I fp wr n P St bt, it = .ref I ∧ Walks prog w A.in1 I fp wr n P St ∧ St 0 s₂.heap ∧ (∀ b ∈ fp, b < s₂.heap.objs.size) ∧ CmpOf prog w A.in1 CmpOp.Gt P bt ∧
      ∀ (v : Value) (h' : Heap) (tk : Nat), (0 < n → P (argBest bt (n - 1)) v) → (n = 0 → v = d) → (∀ b o, ¬ b ∈ wr → s₂.heap.get? b = some o → h'.get? b = some o) → Q v { heap := h', gens := s₂.gens, drawn := s₂.drawn, toks := tk, os := s₂.os }) E s) :
    wpAny (model prog w) A (call (.builtin "max") [x] [("default", d)]) Q E s := by
  refine wpAny_call (codeAny_call_builtin F.plain_max F.entry_max ?_)
  refine wpAny_of_eq (show checkBuiltinCall "max" { pos := [x], kw := [("default", d)] } = pure () from ?_) ?_
  · unfold checkBuiltinCall
    rw [F.kind_max]
    rfl
  refine wpAny_bind (wpAny_of_eq (a := [none, some d]) rfl ?_)
  have hname : (toString "max" ++ toString ".loop" : String) = "max.loop" := by decide +kernel
  refine wpAny_bind (wpAny_pure ?_)
  refine wpAny_bind (wpAny_mono h (fun it s₂ h₂ => ?_) fun _ _ e => e)
  obtain ⟨I, fp, wr, n, P, St, bt, rfl, W, hst, hfp, hcmp, hQ⟩ := h₂
  have hSf : ¬ s₂.heap.objs.size ∈ fp := fun hm => Nat.lt_irrefl _ (hfp _ hm)
  refine wpAny_bind (wpAny_newObj_type ?_ ?_)
  · rw [hname]
    refine wpAny_pure ⟨plainId_quiet F.plain_max_loop _, ?_⟩
    refine max_firstD W bt hcmp s₂.heap.objs.size hSf d (W.frame 0 s₂.heap _ hst fun b _ o e => Heap.get?_push_of_some _ e) (Heap.get?_push_size s₂.heap rfl) fun v h' tk h1 h2 h3 => ?_
    exact hQ v h' tk h1 h2 fun b o hb e => h3 b o hb (Nat.ne_of_lt (Heap.lt_size e)) (Heap.get?_push_of_some _ e)
  · show (#[] : Array Value).size ≤ sizeLine
    rw [sizeLine_eq]; show 0 ≤ 16777216; decide
end L2

set_option Elab.async false
set_option linter.all false
set_option maxRecDepth 100000
set_option maxHeartbeats 2000000
/-! DMY: max(l, default = d) over data -/
namespace L2
open PySem PySem.Spec PyProof.Rows DL
theorem argBest_max (val : Nat → Int) : ∀ j, argBest (fun i j => decide (val i > val j)) j ≤ j ∧ ∀ i, i ≤ j → val i ≤ val (argBest (fun i j => decide (val i > val j)) j)
  | 0 => ⟨Nat.le_refl 0, fun i hi => by
    obtain rfl : i = 0 := by omega
    exact Int.le_refl _⟩
  | j + 1 => by
    obtain ⟨h1, h2⟩ := argBest_max val j
    have e : argBest (fun i j => decide (val i > val j)) (j + 1) = if (decide (val (j + 1) > val (argBest (fun i j => decide (val i > val j)) j))) = true then j + 1 else argBest (fun i j => decide (val i > val j)) j := rfl
    rw [e]
    by_cases z : val (j + 1) > val (argBest (fun i j => decide (val i > val j)) j)
    · rw [if_pos (decide_eq_true z)]
      refine ⟨Nat.le_refl _, fun i hi => ?_⟩
      rcases Nat.lt_or_ge j i with w | w
      · obtain rfl : i = j + 1 := by omega
        exact Int.le_refl _
      · have := h2 i w; omega
    · rw [if_neg (by rw [decide_eq_false z]; decide)]
      refine ⟨by omega, fun i hi => ?_⟩
      rcases Nat.lt_or_ge j i with w | w
      · obtain rfl : i = j + 1 := by omega
        omega
      · exact h2 i w
def tMaxD (K : PySem.W.Frag) (ta tk : TA) : TE := fun σ H Q => ta σ H fun xs H1 => tk σ H1 fun ys H2 => ∃ l ns d, xs = [.ref l] ∧ ys = [.int d] ∧ SqL K H2 l (List.map V.int ns) ∧ ∀ m, (ns = [] → m = d) → (ns ≠ [] → m ∈ ns ∧ ∀ z ∈ ns, z ≤ m) → Q (.int m) H2
theorem pe_maxD {X : Cx} {a : Expr} {kws : List Keyword} {ta tk : TA} {p pos : Pos} (hg : Gl X "max") (hm : X.mg "max" = none) (hb : bootBuiltins "max" = some (.builtin "max")) (hc : X.calm = true) (ha : PA X [a] ta) (hkw : PK X kws tk)
    (he : starEach [a] X.env = (false, eval a X.env) :: starEach [] X.env) (hall : ((backToKw pos (keywordEach kws X.env)).all (·.1.isSome)) = true) (hks : (backToKw pos (keywordEach kws X.env)).filterMap (·.1) = [("default" : Str)])
    (h1 : (backTo pos (starEach [a] X.env)).any (·.1) = false) (h2 : (backToKw pos (keywordEach kws X.env)).any (·.1.isNone) = false) : PE X (.Call (.Name "max" p) [a] kws pos) (tMaxD X.K ta tk) := by
  constructor
  intro pins s σ H Q I h
  refine wpAny_Call_Name_kw (ld_blt I hg hm hb ?_)
  refine callWith_builtin_kwB h1 h2 ?_
  have hr := ha.run pos pins s σ H _ I h
  unfold evalArgs
  rw [he] at hr ⊢
  dsimp only
  refine wpAny_bind (thn hr ?_)
  rintro us s1 ⟨vs, H1, I1, r, q⟩
  refine wpAny_bind (wpAny_pure ?_)
  dsimp only
  refine wpAny_holding ?_
  refine wpAny_ite_true (decide_eq_true hall) ?_
  refine wpAny_bind (thn (hkw.run pos pins s1 σ H1 _ I1 q) ?_)
  rintro ws s2 ⟨zs, H2, I2, rz, l1, l2, q2⟩
  refine wpAny_bind (wpAny_pure ?_)
  refine wpAny_pure ?_
  dsimp only
  rw [hks]
  obtain ⟨d, rfl, rfl, hq, q3⟩ := q2
  obtain ⟨u, rfl, rx⟩ := vals1 r
  obtain rfl : u = Value.ref l1 := rx
  obtain ⟨v, rfl, ry⟩ := vals1 rz
  obtain ⟨t, rfl⟩ := ry
  obtain ⟨its, rv, pl, hz⟩ := I2.list hq
  have hl := pl.isList
  have hsz : its.toArray.size = l2.length := by rw [List.size_toArray, ← rv.length, List.length_map]
  have hints : IntsAre its.toArray.toList l2 := by simpa using RZ.intsAre_vals rv
  have hval : ∀ (i : Nat) (v : Value), its.toArray[i]? = some v → ∃ t, v = .int (l2.getD i 0) t := fun i v hv => IntsAre.int_at hints i v (by rw [Array.getElem?_toList]; exact hv)
  have hh : X.A.in1.handled = none := I2.ok.hd hc
  show wpAny (model X.prog X.w) X.A (call (.builtin "max") [.ref l1] [("default", .int d t)]) _ _ _
  refine call_maxD (wpAny_pyIter_list hl ?_)
  have hneI : l1 ≠ s2.heap.objs.size := by
    obtain ⟨ol, hol, _⟩ := hl
    exact Nat.ne_of_lt (Heap.lt_size hol)
  refine ⟨_, _, _, _, _, _, _, rfl, Walks.list hh s2.heap.objs.size l1 hneI its.toArray, ⟨⟨_, Heap.get?_push_size s2.heap rfl, rfl, rfl⟩, hl.push _⟩, fun b hb => ?_, CmpOf.ints_gt (fun i => l2.getD i 0) hval, fun v h' tk p1 p2 hk => ?_⟩
  · rw [List.mem_cons, List.mem_singleton] at hb
    rw [Heap.size_push]
    rcases hb with rfl | rfl
    · exact Nat.lt_succ_self _
    · obtain ⟨ol, hol, _⟩ := hl
      exact Nat.lt_succ_of_lt (Heap.lt_size hol)
  · have hk2 : ∀ b o, s2.heap.get? b = some o → h'.get? b = some o := fun b o e => hk b o (by
      rw [List.mem_singleton]
      exact Nat.ne_of_lt (Heap.lt_size e)) (Heap.get?_push_of_some _ e)
    by_cases hn : l2 = []
    · have := p2 (by rw [hsz, hn]; rfl)
      exact ⟨.int d, H2, I2.kept hk2, ⟨t, this⟩, q3 d (fun _ => rfl) fun z => absurd hn z⟩
    · have hpos : 0 < its.toArray.size := by rw [hsz]; exact List.length_pos_iff.mpr hn
      have hb := p1 hpos
      obtain ⟨m1, m2⟩ := argBest_max (fun i => l2.getD i 0) (its.toArray.size - 1)
      generalize argBest (fun i j => decide (l2.getD i 0 > l2.getD j 0)) (its.toArray.size - 1) = k at hb m1 m2
      obtain ⟨t2, ev⟩ := hval k v hb
      have hkl : k < l2.length := by omega
      refine ⟨.int (l2.getD k 0), H2, I2.kept hk2, ⟨t2, ev⟩, q3 _ (fun z => absurd z hn) fun _ => ⟨?_, fun z hz => ?_⟩⟩
      · rw [List.getD_eq_getElem?_getD, List.getElem?_eq_getElem hkl]
        exact List.getElem_mem hkl
      · obtain ⟨i, hi, rfl⟩ := List.getElem_of_mem hz
        have := m2 i (by omega)
        rw [List.getD_eq_getElem?_getD, List.getElem?_eq_getElem hi] at this
        exact this
end L2
namespace DL
open PySem L2
/-- max(l, default = d) -/
def dMaxD (ta tk : DTA) : DTE := fun δ μ q => ta δ μ fun xs μ1 => tk δ μ1 fun ys μ2 => ∃ x ns d, xs = [x] ∧ ys = [.int d] ∧ lstOf μ2 x = some (ns.map D.int) ∧ ∀ m, (ns = [] → m = d) → (ns ≠ [] → m ∈ ns ∧ ∀ z ∈ ns, z ≤ m) → q (.int m) μ2
theorem de_maxD {O : Org} {X : Cx} {a : Expr} {kws : List Keyword} {ta : DTA} {tk : DTA} {p pos : Pos} (hg : Gl X "max") (hm : X.mg "max" = none) (hb : bootBuiltins "max" = some (.builtin "max")) (ha : DA O X [a] ta) (hkw : DKw O X kws tk) (hc : X.calm = true := by rfl)
    (he : starEach [a] X.env = (false, eval a X.env) :: starEach [] X.env := by rfl) (hall : ((backToKw pos (keywordEach kws X.env)).all (·.1.isSome)) = true := by rfl) (hks : (backToKw pos (keywordEach kws X.env)).filterMap (·.1) = [("default" : Str)] := by rfl)
    (h1 : (backTo pos (starEach [a] X.env)).any (·.1) = false := by rfl) (h2 : (backToKw pos (keywordEach kws X.env)).any (·.1.isNone) = false := by rfl) : DE O X (.Call (.Name "max" p) [a] kws pos) (dMaxD ta tk) :=
  pe_weak (pe_maxD hg hm hb hc ha hkw he hall hks h1 h2) fun σ H Q ⟨F, δ, μ, q, hd, rs, t, k⟩ => ⟨F, δ, μ, _, hd, rs, t, fun F1 H1 μ1 ds vs e1 hd1 r1 t1 => ⟨F1, δ, μ1, _, hd1, rs.ext e1, t1, fun F2 H2 μ2 zs us e2 hd2 r2 t2 => by
    obtain ⟨x, ns, d, rfl, rfl, hx, t2⟩ := t2
    obtain ⟨v, rfl, h1⟩ := repL1 (r1.ext e2)
    obtain ⟨v2, rfl, h2⟩ := repL1 r2
    obtain rfl : v2 = .int d := h2
    obtain ⟨l, ws, rfl, h3, h4⟩ := list_sq hd2 h1 hx
    obtain rfl := h4.ints
    exact ⟨l, ns, d, rfl, rfl, h3, fun m m1 m2 => k F2 H2 μ2 (.int m) _ (e1.trans e2) hd2 rep_int (t2 m m1 m2)⟩⟩⟩
end DL

set_option Elab.async false
set_option linter.all false
set_option maxRecDepth 100000
set_option maxHeartbeats 2000000
/-! DLM: a comprehension whose list is written afterwards -/
namespace DL
open PySem L2
def dLcM (ti : DTI) (g : DTG) (tt : DTT) (te : DTE) (vs : List Nat) : DTE := fun δ μ q => ti δ μ fun items keep μ1 => ∃ P : Nat → List D → Mu → Prop, P 0 [] μ1 ∧ (∀ i l μ, i ≤ items.length → P i l μ → keep μ ∧ l.length < sizeLine) ∧
  (∀ i d l μ, items[i]? = some d → P i l μ → g d (wipeD δ vs) μ fun δ2 μ2 => tt δ2 μ2 fun b μ3 => if b = true then te δ2 μ3 fun y μ4 => P (i + 1) (l ++ [y]) μ4 else P (i + 1) l μ3) ∧ ∀ l μ, P items.length l μ → ∀ p, μ p = none → q (.adr p) (updM μ p (.lst l))
section
variable {O : Org} {X : Cx}
theorem llcM {K : PySem.W.Frag} {ti : DTI} {g : DTG} {tt : DTT} {te : DTE} {ws vs : List Nat} (hw : ∀ i ∈ ws, i ∈ vs) : ∀ σ H Q, LE K O (dLcM ti g tt te vs) σ H Q → tLc (LI K O ti) (LGw K O ws g) (LT K O tt) (LE K O te) vs σ H Q := fun σ H Q ⟨F, δ, μ, q, hd, rs, t, k⟩ =>
  ⟨F, δ, μ, _, hd, rs, t, fun F1 H1 μ1 items keep J e1 hd1 ok ⟨P, p0, pk, step, fin⟩ => by
    intro A hA
    -- the new list stays out of reach: what is said holds of the heap with it
    have nG : ¬ F1.G A := hd1.nf hA
    refine ⟨fun i m H' => m = items.length - i ∧ i ≤ items.length ∧ ∃ F2 l us μ2, Ext F1 H1 F2 H' ∧ Hd K O F2 H' μ2 ∧ ¬ F2.G A ∧ μ2 A = none ∧ H' A = some (.lst us) ∧ RepL K F2 H' l us ∧ P i l μ2, ⟨_, rfl, Nat.zero_le _, F1, [], [], μ1, ext_new hd1 hA, ⟨hd1.org.trans (ext_new hd1 hA), fun a f => ?_, fun a m e => ?_⟩, nG, hd1.free hA, upd_same, RepL.nil, p0⟩, ?_⟩
    · have z : a ≠ A := fun z => nG (z ▸ f)
      rw [upd_ne z]; exact hd1.fr a f
    · have z : a ≠ A := fun z => by rw [z, hd1.free hA] at e; cases e
      exact ⟨(hd1.own a m e).1, (hd1.own a m e).2.ext (ext_new hd1 hA) (upd_ne z)⟩
    rintro i m H2 ⟨rfl, hi, F2, l, us, μ2, e2, hd2, nA, mA, hA2, rl, p2⟩
    obtain ⟨kk, hsz⟩ := pk i l μ2 hi p2
    by_cases hlt : i < items.length
    · refine .inr ⟨ok.go i F2 H2 μ2 e2 hd2 kk hlt, fun H' => ∃ F2 l us μ2, Ext F1 H1 F2 H' ∧ Hd K O F2 H' μ2 ∧ ¬ F2.G A ∧ μ2 A = none ∧ H' A = some (.lst us) ∧ RepL K F2 H' l us ∧ P (i + 1) l μ2, fun H' q => ⟨_, by omega, rfl, hlt, q⟩, fun x H3 hy => ?_⟩
      have ep : Ext F2 H2 (addG F2 A) H2 := ⟨fun _ f => f, fun _ f => .inl f, fun _ _ => rfl, fun _ _ f => f⟩
      have hdp : Hd K O (addG F2 A) H2 μ2 := by
        refine ⟨hd2.org.trans ep, fun a f => f.elim (hd2.fr a) fun z => by rw [z, hA2]; simp, fun a m e => ?_⟩
        have z : a ≠ A := fun z => by rw [z, mA] at e; cases e
        exact ⟨fun f => f.elim (hd2.own a m e).1 z, (hd2.own a m e).2.ext ep rfl⟩
      obtain ⟨F3, d, e3, hd3, hd', r3⟩ := ok.yld i (addG F2 A) H2 μ2 x H3 (e2.trans ep) hdp kk hlt hy
      have e03 := (e1.trans (e2.trans ep)).trans e3
      refine ⟨F3, d, wipeD δ vs, μ2, _, hd3, (rs.wipe vs).ext e03, r3, step i d l μ2 hd' p2, fun F4 H4 μ4 δ4 σ4 e4 hd4 rs4 a4 t4 => ⟨(wipe_agr (a4.mono hw)).trans (wipe_wipe σ vs), F4, δ4, μ4, _, hd4, rs4, t4, fun F5 H5 μ5 b e5 hd5 t5 => ?_⟩⟩
      have e25 : Ext (addG F2 A) H2 F5 H5 := (e3.trans e4).trans e5
      -- what a turn leaves, whether or not something was appended
      have close : ∀ F6 H6 μ6, Ext (addG F2 A) H2 F6 H6 → Hd K O F6 H6 μ6 → ∀ (l' : List D) (us' : List V), RepL K F6 H6 l' us' → P (i + 1) l' μ6 →
          ∃ F7 l7 us7 μ7, Ext F1 H1 F7 (upd H6 A (.lst us')) ∧ Hd K O F7 (upd H6 A (.lst us')) μ7 ∧ ¬ F7.G A ∧ μ7 A = none ∧ (upd H6 A (.lst us')) A = some (.lst us7) ∧ RepL K F7 (upd H6 A (.lst us')) l7 us7 ∧ P (i + 1) l7 μ7 := by
        intro F6 H6 μ6 e6 hd6 l' us' r' p'
        have nf : ¬ F6.F A := fun f => nA (F2.sub A (e6.o A (.inr rfl) f))
        have gA : F6.G A := e6.g A (.inr rfl)
        have mA6 : μ6 A = none := by
          cases e : μ6 A with
          | none => rfl
          | some m => exact absurd gA (hd6.own A m e).1
        have le : Le F6 H6 (remG F6 A nf) (upd H6 A (.lst us')) := ⟨fun _ f => f, fun {a} f => upd_ne fun z => nf (z ▸ f)⟩
        have ex1 : Ext F1 H1 (remG F6 A nf) (upd H6 A (.lst us')) := ⟨fun a f => e6.f a (e2.f a f), fun a f => ⟨e6.g a (.inl (e2.g a f)), fun z => nG (z ▸ f)⟩, fun a f => by
          have z : a ≠ A := fun z => nG (z ▸ f)
          rw [upd_ne z, e6.h a (.inl (e2.g a f)), e2.h a f], fun a f k => e2.o a f (e6.o a (.inl (e2.g a f)) k)⟩
        refine ⟨remG F6 A nf, l', us', μ6, ex1, ⟨hd1.org.trans ex1, fun a f => ?_, fun a m e => ?_⟩, fun f => f.2 rfl, mA6, upd_same, r'.mv le, p'⟩
        · rw [upd_ne f.2]; exact hd6.fr a f.1
        · have z : a ≠ A := fun z => by rw [z, mA6] at e; cases e
          exact ⟨fun f => (hd6.own a m e).1 f.1, (hd6.own a m e).2.mv le (upd_ne z)⟩
      cases b with
      | true =>
        rw [if_pos rfl] at t5
        dsimp only
        rw [if_pos rfl]
        refine ⟨F5, δ4, μ5, _, hd5, rs4.ext e5, t5, fun F6 H6 μ6 y v e6 hd6 r6 t6 => ?_⟩
        have e26 := e25.trans e6
        refine ⟨us, (e26.h A (.inr rfl)).trans hA2, by rw [← rl.length]; exact hsz, ?_⟩
        exact close F6 H6 μ6 e26 hd6 (l ++ [y]) (us ++ [v]) (((rl.ext ep).ext e26).append (.cons r6 RepL.nil)) t6
      | false =>
        rw [if_neg Bool.false_ne_true] at t5
        dsimp only
        rw [if_neg Bool.false_ne_true]
        have c := close F5 H5 μ5 e25 hd5 l us ((rl.ext ep).ext e25) t5
        have eu : upd H5 A (.lst us) = H5 := by
          funext b
          unfold upd
          split
          · rename_i e; rw [e, (e25.h A (.inr rfl)).trans hA2]
          · rfl
        rw [eu] at c
        exact c
    · have e : i = items.length := by omega
      subst e
      refine .inl ⟨ok.stop _ F2 H2 μ2 e2 hd2 kk (Nat.le_refl _), ?_⟩
      refine k F2 H2 (updM μ2 A (.lst l)) (.adr A) (.ref A) (e1.trans e2) ⟨hd2.org, hd2.fr, fun a m e => ?_⟩ rfl (fin l μ2 p2 A mA)
      by_cases z : a = A
      · subst z
        rw [updM_same] at e
        cases e
        exact ⟨nA, us, hA2, rl⟩
      · rw [updM_ne z] at e
        exact hd2.own a m e⟩
theorem de_lcM {elt tg iter : Expr} {ifs : List Expr} {scope : Scope} {own : List (Str × Nat)} {pos : Pos} {ti : DTI} {g : DTG} {tt : DTT} {te : DTE} {ws : List Nat} (hc : X.calm = true) (hN : X.N.Nodup) (hi : DI O X tg iter ti) (ok : BlkOk X.N X.env.scope scope own) (hw : ∀ i ∈ ws, i ∈ own.map (·.2))
    (hg : ∀ (s : Shared) (H : Hp) (C : Addr) (cl : List (Str × Addr)) (fp : List Addr), DGw O (X.blk s H scope (compEnvC scope cl C X.env) fp) tg ws g) (ht : ∀ (s : Shared) (H : Hp) (C : Addr) (cl : List (Str × Addr)) (fp : List Addr), DTs O (X.blk s H scope (compEnvC scope cl C X.env) fp) ifs tt)
    (he : ∀ (s : Shared) (H : Hp) (C : Addr) (cl : List (Str × Addr)) (fp : List Addr), DE O (X.blk s H scope (compEnvC scope cl C X.env) fp) elt te) (hs : ∀ x, foldedSetIterable iter X.env x = pure x := by intro _; rfl) :
    DE O X (.ListComp elt [⟨tg, iter, ifs, 0⟩] scope pos) (dLcM ti g tt te (own.map (·.2))) := pe_weak (pe_lc hc hN hi ok hg ht he hs) (llcM hw)
theorem ds_setLcM {i : Nat} {y : Str} {py : Pos} {elt tg iter : Expr} {ifs : List Expr} {scope : Scope} {own : List (Str × Nat)} {pos spos : Pos} {ti : DTI} {g : DTG} {tt : DTT} {te : DTE} {ws : List Nat} (hc : X.calm = true) (hN : X.N.Nodup) (hy : X.N[i]? = some y) (hyl : X.env.scope.names.lookup y = some .local)
    (hsw : swapsWith (.ListComp elt [⟨tg, iter, ifs, 0⟩] scope pos) (some (.Name y py)) spos.line X.env = pure true) (hi : DI O X tg iter ti) (ok : BlkOk X.N X.env.scope scope own) (hw : ∀ i ∈ ws, i ∈ own.map (·.2))
    (hg : ∀ (s : Shared) (H : Hp) (C : Addr) (cl : List (Str × Addr)) (fp : List Addr), DGw O (X.blk s H scope (compEnvC scope cl C X.env) fp) tg ws g) (ht : ∀ (s : Shared) (H : Hp) (C : Addr) (cl : List (Str × Addr)) (fp : List Addr), DTs O (X.blk s H scope (compEnvC scope cl C X.env) fp) ifs tt)
    (he : ∀ (s : Shared) (H : Hp) (C : Addr) (cl : List (Str × Addr)) (fp : List Addr), DE O (X.blk s H scope (compEnvC scope cl C X.env) fp) elt te) (hs : ∀ x, foldedSetIterable iter X.env x = pure x := by intro _; rfl) :
    DSt O X (.Assign [.Name y py] (.ListComp elt [⟨tg, iter, ifs, 0⟩] scope pos) spos) (dAsg (dLcM ti g tt te (own.map (·.2))) (dgName i)) := ps_weak (ps_setLc hc hN hy hyl hsw hi ok hg ht he hs) fun Z σ H ⟨F, δ, μ, E, hd, rs, t, L⟩ =>
  llcM hw σ H _ ⟨F, δ, μ, _, hd, rs, t, fun F1 H1 μ1 d v e1 hd1 r1 t1 => L.nx F1 H1 μ1 _ _ e1 hd1 ((rs.ext e1).set r1) t1⟩
end
end DL

set_option Elab.async false
set_option linter.all false
set_option maxRecDepth 100000
set_option maxHeartbeats 2000000
/-! DDX: dict displays with texts as keys; l.extend(m) -/
namespace DL
open PySem L2
/-- the values of a display, under their keys -/
def DPP (O : Org) (X : Cx) (pos : Pos) (keys : List (Option Expr)) (es : List Expr) (ks : List Str) (t : DTA) : Prop :=
  ∃ trs, PPs X pos keys es trs ∧ keys.all (·.isSome) = true ∧ keys.length = es.length ∧ ks.length = es.length ∧ ∀ σ H Q,
    (∃ F δ μ q, Hd X.K O F H μ ∧ RepS X.K F H δ σ ∧ t δ μ q ∧ ∀ F' H' μ' ds vs, Ext F H F' H' → Hd X.K O F' H' μ' → RepL X.K F' H' ds vs → ds.length = ks.length → q ds μ' → Q ((ks.map V.str).zip vs) H') → tPairs trs σ H Q
section
variable {O : Org} {X : Cx} {pos kp : Pos} {keys : List (Option Expr)} {es : List Expr} {e : Expr} {ks : List Str} {k : Str} {t : DTA} {te : DTE} {j : Nat}
theorem dpp_nil : DPP O X pos [] [] [] dNil := ⟨[], pps_nil, rfl, rfl, rfl, fun σ H Q ⟨F, δ, μ, q, hd, rs, t, k⟩ => k F H μ [] [] (Ext.refl F H) hd RepL.nil rfl t⟩
theorem dpp_cons (he : DE O X e te) (hr : DPP O X pos keys es ks t) : DPP O X pos (some (.Constant (.str k) j kp) :: keys) (e :: es) (k :: ks) (dCons te t) := by
  obtain ⟨trs, h1, h2, h3, h4, h5⟩ := hr
  refine ⟨_, pps_cons pe_str he h1, ?_, by rw [List.length_cons, List.length_cons, h3], by rw [List.length_cons, List.length_cons, h4], fun σ H Q ⟨F, δ, μ, q, hd, rs, t, kk⟩ => ?_⟩
  · rw [List.all_cons, h2]; rfl
  · refine ⟨F, δ, μ, _, hd, rs, t, fun F1 H1 μ1 d v e1 hd1 r1 t1 => ?_⟩
    refine h5 σ H1 _ ⟨F1, δ, μ1, _, hd1, rs.ext e1, t1, fun F2 H2 μ2 ds vs e2 hd2 r2 hl t2 => ?_⟩
    exact kk F2 H2 μ2 (d :: ds) (v :: vs) (e1.trans e2) hd2 (.cons (r1.ext e2) r2) (by rw [List.length_cons, List.length_cons, hl]) t2
theorem merge_apart : ∀ (more acc : List (Key × V)), (∀ p ∈ more, ∀ r ∈ acc, r.1 ≠ p.1) → more.Pairwise (fun a b => a.1 ≠ b.1) → mergeK acc more = acc ++ more
  | [], acc, _, _ => by rw [List.append_nil]; rfl
  | p :: more, acc, h, n => by
    obtain ⟨n1, n2⟩ := List.pairwise_cons.mp n
    have e : putK acc p.1 p.2 = acc ++ [p] := by
      unfold putK
      rw [if_neg]
      intro z
      obtain ⟨r, h1, h2⟩ := List.any_eq_true.mp z
      exact h p List.mem_cons_self r h1 (of_decide_eq_true h2)
    show mergeK (putK acc p.1 p.2) more = _
    rw [e, merge_apart more (acc ++ [p]) (fun a ha r hr => ?_) n2]
    · simp
    · rcases List.mem_append.mp hr with z | z
      · exact h a (List.mem_cons_of_mem _ ha) r z
      · obtain rfl : r = p := by simpa using z
        exact n1 a ha
theorem zip_apart : ∀ (ks : List Str) (vs : List V), ks.Nodup → ((ks.map fun k => (Sum.inr k : Key)).zip vs).Pairwise (fun a b => a.1 ≠ b.1)
  | [], _, _ => by simp
  | k :: ks, [], _ => by simp
  | k :: ks, v :: vs, n => by
    obtain ⟨n1, n2⟩ := List.nodup_cons.mp n
    refine List.pairwise_cons.mpr ⟨fun b hb => ?_, zip_apart ks vs n2⟩
    have := (List.of_mem_zip (show (b.1, b.2) ∈ _ from hb)).1
    obtain ⟨z, hz, e⟩ := List.mem_map.mp this
    intro q
    apply n1
    have q : (Sum.inr k : Key) = b.1 := q
    rw [← e] at q
    obtain rfl := Sum.inr.inj q
    exact hz
theorem zip_keys : ∀ (ks : List Str) (vs : List V), (ks.map V.str).zip vs = ((ks.map fun k => (Sum.inr k : Key)).zip vs).map fun kv => (kV kv.1, kv.2)
  | [], _ => rfl
  | k :: ks, [] => rfl
  | k :: ks, v :: vs => by
    show (V.str k, v) :: (ks.map V.str).zip vs = _
    rw [zip_keys ks vs]; rfl
/-- {"a": x, ..}: it may be written -/
def dDisp (ks : List Str) (t : DTA) : DTE := fun δ μ q => ∀ p, μ p = none → t δ (updM μ p (.dic [])) fun ds μ1 => μ1 p = some (.dic []) ∧ (ds.length = ks.length → q (.adr p) (updM μ1 p (.dic ((ks.map fun k => (Sum.inr k : Key)).zip ds))))
theorem de_disp (h : DPP O X pos keys es ks t) (hn : ks.Nodup) (h0 : keys ≠ []) (h15 : keys.length ≤ 15) : DE O X (.Dict keys es pos) (dDisp ks t) := by
  obtain ⟨trs, h1, h2, h3, h4, h5⟩ := h
  refine pe_weak (pe_disp h1 h2 h3 h0 h15) fun σ H Q ⟨F, δ, μ, q, hd, rs, t, kk⟩ => fun p hp => ?_
  have hd0 := hd.newM (o := HO.dK []) (m := .dic []) hp ⟨[], upd_same, RepL.nil⟩
  refine h5 σ _ _ ⟨F, δ, _, _, hd0, rs.ext (ext_new hd hp), t p (hd.free hp), fun F1 H1 μ1 ds vs e1 hd1 r1 hl ⟨hm, t1⟩ => ?_⟩
  obtain ⟨_, ws, g1, g2⟩ := hd1.own p _ hm
  have g1 : H1 p = some (.dK []) := by rw [g1]; rfl
  have hlv : vs.length = ks.length := by rw [← r1.length, hl]
  have ex := ext_set (o := HO.dK ((ks.map fun k => (Sum.inr k : Key)).zip vs)) hd1 hm
  have hl2 : ((ks.map fun k => (Sum.inr k : Key)).zip ds).map (·.1) = ks.map fun k => (Sum.inr k : Key) := List.map_fst_zip (by rw [List.length_map, hl]; exact Nat.le_refl _)
  have hl3 : ((ks.map fun k => (Sum.inr k : Key)).zip ds).map (·.2) = ds := List.map_snd_zip (by rw [List.length_map, hl]; exact Nat.le_refl _)
  refine ⟨g1, (ks.map fun k => (Sum.inr k : Key)).zip vs, zip_keys ks vs, ?_, ?_⟩
  · rw [List.length_zip, List.length_map]; omega
  · rw [merge_apart _ [] (fun _ _ r hr => by cases hr) (zip_apart ks vs hn), List.nil_append]
    refine kk F1 _ _ (.adr p) (.ref p) (((ext_new hd hp).trans e1).trans ex) (hd1.set (m' := .dic ((ks.map fun k => (Sum.inr k : Key)).zip ds)) hm ⟨vs, ?_, ?_⟩) rfl (t1 hl)
    · rw [hl2]; exact upd_same
    · rw [hl3]; exact r1.ext ex
/-- l.extend(m) -/
def dExtend (tl te : DTE) : DTE := fun δ μ q => tl δ μ fun x μ1 => match x with
  | .adr p => (∃ l, μ1 p = some (.lst l)) ∧ te δ μ1 fun d μ2 => ∃ l m, μ2 p = some (.lst l) ∧ catOf μ2 d = some m ∧ l.length + m.length ≤ sizeLine ∧ q .non (updM μ2 p (.lst (l ++ m)))
  | _ => False
theorem de_extend {o e : Expr} {tl te : DTE} {pos apos : Pos} (h : PE X (.Call (.Attribute o "extend" apos) [e] [] pos) (tBM X.K "list" rExtend (LE X.K O tl) (tCons (LE X.K O te) tNil))) : DE O X (.Call (.Attribute o "extend" apos) [e] [] pos) (dExtend tl te) :=
  pe_weak h fun σ H Q ⟨F, δ, μ, q, hd, rs, t, k⟩ => ⟨F, δ, μ, _, hd, rs, t, fun F1 H1 μ1 x v e1 hd1 r1 t1 => by
    cases x <;> first | exact False.elim t1 | skip
    rename_i p
    obtain rfl : v = .ref p := r1
    obtain ⟨⟨l0, hm⟩, t1⟩ := t1
    obtain ⟨_, vs, h1, h2⟩ := hd1.own p _ hm
    refine ⟨.inl ⟨rfl, vs, SqL.of h1⟩, F1, δ, μ1, _, hd1, rs.ext e1, t1, fun F2 H2 μ2 d u e2 hd2 r2 ⟨l, m, hm2, hc, hl, t2⟩ => ?_⟩
    obtain ⟨_, ws, h3, h4⟩ := hd2.own p _ hm2
    obtain ⟨b, us, rfl, h5, h6⟩ := list_cat hd2 r2 hc
    have ex := ext_set (o := HO.lst (ws ++ us)) hd2 hm2
    exact ⟨p, b, ws, us, rfl, rfl, h3, h5, by rw [← h4.length, ← h6.length]; exact hl, k F2 _ _ .non .non ((e1.trans e2).trans ex) (hd2.set (m' := .lst (l ++ m)) hm2 ⟨_, upd_same, (h4.ext ex).append (h6.ext ex)⟩) rfl t2⟩⟩
end
end DL

set_option Elab.async false
set_option linter.all false
set_option maxRecDepth 100000
set_option maxHeartbeats 2000000
/-! DBG: d[k] += e; l.pop(0); l.count(x) -/
namespace DL
open PySem L2
def dsDAug (to ti tv : DTE) : DTS := fun E δ μ => to δ μ fun x μ1 => ti δ μ1 fun y μ2 => match x, keyD y with
  | .adr p, some k => ∃ kvs i, μ2 p = some (.dic kvs) ∧ valD kvs k = some (.int i) ∧ tv δ μ2 fun z μ3 => match z with
    | .int j => ∃ kvs2, μ3 p = some (.dic kvs2) ∧ kvs2.length < sizeLine ∧ E.nx δ (updM μ3 p (.dic (putKD kvs2 k (.int (i + j)))))
    | _ => False
  | _, _ => False
/-- l.pop(0) -/
def dPop0 (tl te : DTE) : DTE := fun δ μ q => tl δ μ fun x μ1 => match x with
  | .adr p => (∃ l, μ1 p = some (.lst l)) ∧ te δ μ1 fun y μ2 => y = .int 0 ∧ ∃ d l, μ2 p = some (.lst (d :: l)) ∧ q d (updM μ2 p (.lst l))
  | _ => False
/-- l.count(x), whole numbers -/
def dCount (tl te : DTE) : DTE := fun δ μ q => tl δ μ fun x μ1 => (∃ l, lstOf μ1 x = some l) ∧ te δ μ1 fun y μ2 => match y with
  | .int k => ∃ ns : List Int, lstOf μ2 x = some (ns.map D.int) ∧ q (.int (ns.count k : Nat)) μ2
  | _ => False
section
variable {O : Org} {X : Cx} {o i e value : Expr} {to ti te tl tv : DTE} {pos apos tpos : Pos}
theorem ds_daug (hu : X.A.units + 1 < cLine) (ho : DE O X o to) (hi : DE O X i ti) (hv : DE O X value tv)
    (ha : ∀ ov iv new, augStore i ov iv new = (do holding [new, ov, iv] (setItem ov iv new); release [new, ov, iv] []; pure .next) := by intro _ _ _; rfl) : DSt O X (.AugAssign (.Subscript o i tpos) .Add value pos) (dsDAug to ti tv) :=
  ps_weak (ps_daug hu ho hi hv in_add ha) fun Z σ H ⟨F, δ, μ, E, hd, rs, t, L⟩ => ⟨F, δ, μ, _, hd, rs, t, fun F1 H1 μ1 x v e1 hd1 r1 t1 => ⟨F1, δ, μ1, _, hd1, rs.ext e1, t1, fun F2 H2 μ2 y u e2 hd2 r2 t2 => by
    cases x <;> first | exact False.elim t2 | skip
    rename_i p
    obtain rfl : v = .ref p := r1
    cases hk : keyD y with
    | none => rw [hk] at t2; exact False.elim t2
    | some key =>
      rw [hk] at t2
      obtain ⟨kvs, n, hm, hval, t2⟩ := t2
      obtain ⟨_, vs, h1, h2⟩ := hd2.own p _ hm
      obtain rfl := rep_key hk r2
      obtain ⟨w, h3, h4⟩ := (val_rep (k := key) h2).1 _ hval
      obtain rfl : w = .int n := h4
      refine ⟨p, _, rfl, .inl ⟨_, key, .inl h1, rfl, h3.symm⟩, F2, δ, μ2, _, hd2, (rs.ext e1).ext e2, t2, fun F3 H3 μ3 z u3 e3 hd3 r3 t3 => ?_⟩
      cases z <;> first | exact False.elim t3 | skip
      rename_i j
      obtain rfl : u3 = .int j := r3
      obtain ⟨kvs2, hm3, hl, t3⟩ := t3
      obtain ⟨_, us, g1, g2⟩ := hd3.own p _ hm3
      have ll : ((kvs2.map (·.1)).zip us).length < sizeLine := by
        have := g2.length
        rw [List.length_map] at this
        rw [List.length_zip, List.length_map]; omega
      have ex := ext_set (o := HO.dK (putK ((kvs2.map (·.1)).zip us) key (.int (n + j)))) hd3 hm3
      obtain ⟨us', p1, p2⟩ := put_rep (K := X.K) (k := key) (d := .int (n + j)) (v := .int (n + j)) rep_int (g2.ext ex)
      refine ⟨n, j, rfl, rfl, _, DPut.k g1 ll, ?_⟩
      exact L.nx F3 _ _ δ σ (((e1.trans e2).trans e3).trans ex) (hd3.set (m' := .dic (putKD kvs2 key (.int (n + j)))) hm3 ⟨us', by rw [upd_same, p1], p2⟩) ((((rs.ext e1).ext e2).ext e3).ext ex) t3⟩⟩
theorem de_pop0 (h : PE X (.Call (.Attribute o "pop" apos) [e] [] pos) (tBM X.K "list" rPopAt (LE X.K O tl) (tCons (LE X.K O te) tNil))) : DE O X (.Call (.Attribute o "pop" apos) [e] [] pos) (dPop0 tl te) :=
  pe_weak h fun σ H Q ⟨F, δ, μ, q, hd, rs, t, k⟩ => ⟨F, δ, μ, _, hd, rs, t, fun F1 H1 μ1 x v e1 hd1 r1 t1 => by
    cases x <;> first | exact False.elim t1 | skip
    rename_i p
    obtain rfl : v = .ref p := r1
    obtain ⟨⟨l0, hm⟩, t1⟩ := t1
    obtain ⟨_, vs, h1, h2⟩ := hd1.own p _ hm
    refine ⟨.inl ⟨rfl, vs, SqL.of h1⟩, F1, δ, μ1, _, hd1, rs.ext e1, t1, fun F2 H2 μ2 y u e2 hd2 r2 ⟨ey, d, l, hm2, t2⟩ => ?_⟩
    subst ey
    obtain rfl : u = .int 0 := r2
    obtain ⟨_, ws, h3, w, r, rfl, h4, h5⟩ := hd2.own p _ hm2
    have ex := ext_set (o := HO.lst r) hd2 hm2
    exact ⟨p, w :: r, 0, 0, w, rfl, rfl, h3, by decide, by decide, by unfold seqIndex?; simp, rfl, k F2 _ _ d w ((e1.trans e2).trans ex) (hd2.set (m' := .lst l) hm2 ⟨_, upd_same, h5.ext ex⟩) (Rep.ext ex d w h4) t2⟩⟩
theorem de_count (h : PE X (.Call (.Attribute o "count" apos) [e] [] pos) (tBM X.K "list" (rCntI X.K) (LE X.K O tl) (tCons (LE X.K O te) tNil))) : DE O X (.Call (.Attribute o "count" apos) [e] [] pos) (dCount tl te) :=
  pe_weak h fun σ H Q ⟨F, δ, μ, q, hd, rs, t, k⟩ => ⟨F, δ, μ, _, hd, rs, t, fun F1 H1 μ1 x v e1 hd1 r1 ⟨⟨l0, hl0⟩, t1⟩ => by
    obtain ⟨a, vs, rfl, h1, h2⟩ := list_sq hd1 r1 hl0
    refine ⟨.inl ⟨rfl, vs, h1⟩, F1, δ, μ1, _, hd1, rs.ext e1, t1, fun F2 H2 μ2 y u e2 hd2 r2 t2 => ?_⟩
    cases y <;> first | exact False.elim t2 | skip
    rename_i n
    obtain rfl : u = .int n := r2
    obtain ⟨ns, hl, t2⟩ := t2
    obtain ⟨b, ws, eb, g1, g2⟩ := list_sq hd2 (Rep.ext e2 x (.ref a) r1) hl
    cases eb
    obtain rfl := g2.ints
    exact ⟨a, ns, n, rfl, rfl, g1, k F2 H2 μ2 _ _ (e1.trans e2) hd2 rep_int t2⟩⟩
end
end DL

set_option Elab.async false
set_option linter.all false
/-! DTD: two whole numbers as defaults -/
namespace DL
open PySem L2 PySem.Spec PyProof.Rows
section
variable {P : Program} {w : World} {K : PySem.W.Frag}
theorem funD_mk2 {x qual : Str} {st : Stmt} {f T : Addr} {oc ocT : Value} {od an odT : Option Addr} {osl slT : Array (Option Value)} {kV doc pm cdv ct u u2 : Value} {nT : Nat} {v v2 : V} (l : K.lookup f = some ⟨oc, od, .func (PySem.W.fnOf x qual (defArgs st) (defBody st) (defScope st) (.ref T) kV doc pm an cdv ct), osl⟩)
    (c : PySem.W.codeIn K cdv qual = true) (k : PySem.W.keepIn K (.ref f) = true) (lT : K.lookup T = some ⟨ocT, odT, .seq #[u, u2] nT, slT⟩) (r : RelV v u) (r2 : RelV v2 u2) :
    FunD K x qual (defArgs st) (defBody st) (defScope st) [v, v2] [] f (PySem.W.fnOf x qual (defArgs st) (defBody st) (defScope st) (.ref T) kV doc pm an cdv ct) :=
  ⟨⟨oc, od, .ref T, kV, doc, pm, an, cdv, ct, osl, rfl, l, c, .inr ⟨by simp, T, _, [u, u2], nT, rfl, lT, rfl, .cons r (.cons r2 .nil)⟩, .inl rfl⟩, k⟩
theorem rep_int2 (i j : Int) : ∀ F H, RepL K F H [.int i, .int j] [.int i, .int j] := fun F H => .cons rfl (.cons rfl RepL.nil)
end
end DL

set_option Elab.async false
set_option linter.all false
set_option maxRecDepth 100000
set_option maxHeartbeats 2000000
/-! DXT: an exception that is held behind its suite: it is tracked as a thing known to the object -/
namespace L2N
open PySem PySem.Spec PyProof.Rows L2
section
variable {X : Cx} {pins : List (Addr × Obj)} {σ : L2.St} {H : Hp} {s : Shared}
open DL (exh)
theorem _root_.L2.Inv.track (I : Inv X pins σ H s) {a : Addr} {oe : Obj} (ha : s.heap.get? a = some oe) (na : H a = none) (nL : a ≠ X.env.locals) (nC : ∀ v, oe.data ≠ .cell v)
    (np : ∀ p ∈ X.pn ++ pins, p.1 ≠ a) (n0 : ∀ o, X.s_0.heap.get? a = some o → X.H_0 a = none → a ∈ X.ex) : Inv X pins σ (upd H a (exh oe)) s := by
  have ne : ∀ {b : Addr} {u : HO}, H b = some u → b ≠ a := fun e z => by rw [z, na] at e; cases e
  refine ⟨I.ok, I.os, I.bare, ⟨I.base.keep, I.base.slot, fun b o e n hx => ?_, I.base.there, fun b xs e => ?_, fun b o u e => ?_, fun b ps e => ?_⟩, I.loc, I.cell, ?_, fun x c e => ?_, fun p hp => ?_, fun b u e => ?_, I.len⟩
  · by_cases z : b = a
    · subst z; exact absurd (n0 o e n) hx
    · rw [upd_ne z]; exact I.base.free b o e n hx
  · have k := I.base.tups b xs e
    rw [upd_ne (ne k)]; exact k
  · have k := I.base.frzs b o u e
    rw [upd_ne (ne k)]; exact k
  · obtain ⟨more, k⟩ := I.base.tbls b ps e
    exact ⟨more, by rw [upd_ne (ne k)]; exact k⟩
  · rw [upd_ne (Ne.symm nL)]; exact I.free
  · obtain ⟨v, hv⟩ := I.cell x c e
    have z : c ≠ a := fun z => by
      subst z
      obtain ⟨o, h1, h2⟩ : ∃ o, s.heap.get? c = some o ∧ o.data = .cell v := hv
      rw [ha] at h1
      obtain rfl := Option.some.inj h1
      exact nC v h2
    rw [upd_ne z]; exact I.freeC x c e
  · obtain ⟨h1, h2, h3⟩ := I.pin p hp
    exact ⟨h1, by rw [upd_ne (np p hp)]; exact h2, h3⟩
  · by_cases z : b = a
    · subst z
      rw [upd_same] at e
      obtain rfl := Option.some.inj e
      exact ⟨ha, trivial, ⟨oe, ha⟩, fun _ _ _ _ => trivial⟩
    · rw [upd_ne z] at e
      refine (I.hok b u e).stay (fun _ _ _ q => q) (fun d q => ?_) fun d xs q => ?_
      · rw [upd_ne (ne q)]; exact q
      · rw [upd_ne (ne q)]; exact q

/-- what 'except x as n' asks of the body's exception: behind the suite its object stands tracked -/
def wTrk (K : PySem.W.Frag) (m : Nat) (c : Value) (i : Nat) (ts : Addr → Value → Option Addr → TS) (W₀ : WX) (D : Ends) : WX := fun cls d σ H =>
  ∃ b, PySem.W.exmOne K cls c = some b ∧ (b = true → ∀ a, H a = none → σ.length = m → ts a cls d { D with nx := fun σ' H' => ∀ oe, Zn cls d oe → (∃ vs, oe.data = .fields vs) → H' a = none → D.nx (σ'.set i none) (upd H' a (exh oe)), rt := fun _ _ => False, bk := fun _ _ => False, ct := fun _ _ => False } (σ.set i (some (.ref a))) H) ∧
    (b = false → W₀ cls d σ H)
section
variable {x n : Str} {c : Value} {i : Nat} {body suite : List Stmt} {np pos pos' : Pos} {tb : WX → TS} {ts : Addr → Value → Option Addr → TS} {W₀ : WX}
theorem ps_try_trk (hs : X.stack = X.env :: X.outer) (hf : X.env.frame = some X.env.locals) (hN : X.N.Nodup) (hi : X.N[i]? = some n) (hln : X.env.kindOf n = some .local) (hc : Names X x c) (tk : Takes X W₀) (hnil : suite ≠ [])
    (hb : ∀ (W : WX) (pn : List (Addr × Obj)) (xe : Value → Shared → Prop), Takes (X.tr pn xe) W → PassesOwn (model X.prog X.w) X.A X.env xe → PSs (X.tr pn xe) body (tb W))
    (hsu : ∀ (a : Addr) (oe : Obj) (cls : Value) (d : Option Addr) (pn : List (Addr × Obj)), Zn cls d oe → (∃ vs, oe.data = .fields vs) → PSs (X.suite a ((a, oe) :: pn)) suite (ts a cls d)) :
    PS X (.Try body [.ExceptHandler (some (.Name x np)) (some n) suite pos'] [] [] pos) (fun D σ H => tb (wTrk X.K X.N.length c i ts W₀ D) D σ H) := by
  constructor
  intro pins s σ H D I h
  have ok := I.ok
  obtain ⟨b₀, more, rfl⟩ : ∃ b₀ more, suite = b₀ :: more := by
    cases suite with
    | nil => exact absurd rfl hnil
    | cons b m => exact ⟨b, m, rfl⟩
  have frm : X.A.frames = some (X.env :: X.outer) := hs ▸ ok.frames
  have body_ := (hb (wTrk X.K X.N.length c i ts W₀ D) (X.pn ++ pins) (fun e s₁ => wpAny (model X.prog X.w) X.A (noteFrame e X.env) (fun _ s₂ => wpAny (model X.prog X.w) X.A (setFlight e none)
    (fun _ s₃ => wpAny (model X.prog X.w) X.A (handleBy e X.env [.ExceptHandler (some (.Name x np)) (some n) (b₀ :: more) pos']) (SP X pins D) X.xe s₃) X.xe s₂) X.xe s₁) ?grab PassesOwn.looking).run [] s σ H D (I.toTry _) h
  case grab =>
    rintro u s' ⟨a, B, s0, ps, σ1, H1, cls, d, rfl, J0, inB, up0, sky, na, eos, eag, b, hb1, yes, no⟩
    have J : Inv X pins σ1 H1 s0 := J0.ofTry ok
    show wpAny (model X.prog X.w) X.A (noteFrame (.ref a) X.env) _ _ _
    refine Sky.land Zn.steady frm hf (by rw [← hs]; exact sky) fun g1 fly1 up1 => ?_
    have J1 : Inv X pins σ1 H1 { s' with heap := g1 } := J.landed inB fly1.1 (up0.trans up1) eos eag
    obtain ⟨o1, v1, ho1, z1, d1⟩ := fly1.there
    have off : a ∉ frs (X.env :: X.outer) := fun hm => by
      obtain ⟨_, o', e', nf⟩ := fly1.2.2.1.mem hm
      rw [ho1] at e'
      obtain rfl := Option.some.inj e'
      exact nf _ d1
    have nL : a ≠ X.env.locals := fun z => off (List.mem_filterMap.mpr ⟨X.env, List.mem_cons_self, by rw [hf, z]⟩)
    have nF : a ∉ X.fs := fun hm => by
      obtain ⟨e, he, q⟩ := List.mem_filterMap.mp hm
      exact off (List.mem_filterMap.mpr ⟨e, List.mem_cons_of_mem _ he, q⟩)
    have nB : B.get? a = none := fly1.2.1
    -- a is no object of the state without it
    have n0 : ∀ o, s0.heap.get? a ≠ some o := fun o e => by
      have := inB a o e (by rw [hs]; exact off)
      rw [nB] at this; cases this
    have S1 := J1.suite ho1 d1 na nL nF
    refine wpAny_handleBy_cons (codeAny_handlers_test ?_) fun q => nomatch q
    have kind := PySem.W.exm_one (M := model X.prog X.w) J1.kIn (fun A Q E t k q => wpAny_typeOf_ref (k _ _ ho1) (by rw [z1.1]; exact q)) hb1
    have known : ∀ {Q E : Value → Shared → Prop}, Q c { s' with heap := g1 } → wpAny (model X.prog X.w) (X.A.mark (some (.ref a))) (eval (.Name x np) X.env) Q E { s' with heap := g1 } := fun {Q E} q => by
      rcases hc with ⟨hg, hdbg, hm | ⟨hm, hv, hnn⟩⟩
      · exact ld_glob (X := X.suite a ((a, o1) :: (X.pn ++ pins))) S1 hg hm q hdbg
      · exact ld_blt (X := X.suite a ((a, o1) :: (X.pn ++ pins))) S1 hg hm hv q hnn hdbg
    refine known (kind.here ?_)
    cases b with
    | false =>
      show wpAny _ X.A (handleBy (.ref a) X.env []) _ _ _
      refine wpAny_handleBy_nil ?_
      obtain ⟨_, _, _, oe, vs, T, oT, _, he, hz, hd, h1, hr⟩ := id fly1
      unfold PySem.passOn
      refine wpAny_bind (wpAny_field he hd h1 ?_)
      rw [if_neg (show ¬ ((Value.ref T == Value.none) = true) from by simp)]
      have out : wpAny (model X.prog X.w) X.A (setFlight (.ref a) X.env.frame) (fun _ t => wpAny (model X.prog X.w) X.A (throw (.ref a) : Sem Flow) (SP X pins D) X.xe t) X.xe { s' with heap := g1 } := by
        rw [hf]
        exact HandSPX.setFlight_upZ fly1 fun g2 held up2 => wpAny_throw (tk _ _ ⟨a, B, s0, pins, σ1, H1, cls, d, rfl, J, inB, (up0.trans up1).trans up2, .inr (.inr (by rw [hs]; exact held)), na, eos, eag, no rfl⟩)
      first
        | exact wpAny_bind (wpAny_pure (wpAny_bind out))
        | exact wpAny_bind out
    | true =>
      refine codeAny_handlers_suite_as (HandSPX.lands_againZ fly1 fun g2 fly2 up2 => ?_)
      have J2 : Inv X pins σ1 H1 { s' with heap := g2 } := J.landed inB fly2.1 ((up0.trans up1).trans up2) eos eag
      obtain ⟨o2, v2, ho2, z2, d2⟩ := fly2.there
      refine store_ok (X := X.suite a ((a, o2) :: (X.pn ++ pins))) (v := .ref a) (J2.suite ho2 d2 na nL nF) hN hi (.inl hln) rfl (fun s3 S3 => ?_) (.inr hln)
      refine wpAny_mono ((hsu a o2 cls d (X.pn ++ pins) z2 ⟨_, d2⟩).run [] s3 _ H1 _ S3 (yes rfl a na J.len)) (fun f s4 post => ?_) fun _ _ z => z.elim
      match f, post with
      | .brk, ⟨_, _, _, z⟩ => exact z.elim
      | .cont, ⟨_, _, _, z⟩ => exact z.elim
      | .ret u, ⟨_, _, _, _, _, z⟩ => exact z.elim
      | .next, ⟨σ4, H4, S4, q4⟩ =>
        obtain ⟨p1, p2, p3, p4, p5⟩ := S4.pin (a, o2) (List.mem_append_left _ List.mem_cons_self)
        have J4 : Inv X pins σ4 (upd H4 a (exh o2)) s4 := by
          refine (S4.unsuite ok).track p1 p2 p3 p5 (fun p hp z => ?_) fun o e n => ?_
          · exact n0 p.2 (by rw [← z]; exact (J.pin p hp).1)
          · by_cases hx : a ∈ X.ex
            · exact hx
            · exact absurd (J.base.keep a o e n nF hx) (n0 o)
        exact gone_ok J4 hN hi hln fun s5 J5 => ⟨_, _, J5, q4 o2 z2 ⟨_, d2⟩ p2⟩
  refine wpAny_Try_except (wpAny_mono body_ (fun f s1 post => ?_) fun e s1 he => he)
  match f, post with
  | .next, ⟨σ', H', J', q⟩ => exact wpAny_execs_nil ⟨σ', H', J'.ofTry ok, q⟩
  | .brk, ⟨σ', H', J', q⟩ => exact ⟨σ', H', J'.ofTry ok, q⟩
  | .cont, ⟨σ', H', J', q⟩ => exact ⟨σ', H', J'.ofTry ok, q⟩
  | .ret u, ⟨v, σ', H', J', r, q⟩ => exact ⟨v, σ', H', J'.ofTry ok, r, q⟩
end
end
end L2N

set_option Elab.async false
set_option linter.all false
set_option maxRecDepth 100000
set_option maxHeartbeats 2000000
/-! DXC: try: .. except E as n: y = n (nothing else of the frame is known behind the suite) -/
namespace DL
open PySem L2
/-- isa: the classes that the clause takes; m slots, y's is j -/
def dTryC (isa : Addr → Prop) (m j : Nat) (tb : DX → DTS) : DTS := fun E δ μ => tb (fun C d μ2 => isa C ∧ E.nx ((List.replicate m none).set j (some (.exc C d))) μ2) E δ μ
theorem LEnds.here {K : PySem.W.Frag} {O : Org} {F : Zo} {H : Hp} {μ : Mu} {E : DEnds} {Z : Ends} (hd : Hd K O F H μ) (L : LEnds K O F H E Z) : LEnds K ⟨F, H⟩ F H E Z :=
  ⟨fun F' H' μ δ σ x h => L.nx F' H' μ δ σ x (hd.back h).1, fun F' H' μ d v x h => L.rt F' H' μ d v x (hd.back h).1, fun F' H' μ δ σ x h => L.bk F' H' μ δ σ x (hd.back h).1, fun F' H' μ δ σ x h => L.ct F' H' μ δ σ x (hd.back h).1⟩
section
variable {O : Org} {X : Cx} {x n y : Str} {c : Value} {i j m k : Nat} {body : List Stmt} {np py pn1 ap pos pos' : Pos} {tb : DX → DTS} {isa : Addr → Prop} {e : DX}
theorem ds_tryC (C : Ctx O X k e) (hs : X.stack = X.env :: X.outer) (hf : X.env.frame = some X.env.locals) (hN : X.N.Nodup) (hi : X.N[i]? = some n) (hj : X.N[j]? = some y) (hij : i ≠ j) (hm : X.N.length = m)
    (hln : X.env.kindOf n = some .local) (hvn : Vis X.env.scope n) (hly : Loc X.env.scope y) (hyf : X.env.scope.names.lookup y = some .local) (hc : L2.Names X x c)
    (hsub : ∀ C, isa C → PySem.W.exmOne X.K (.ref C) c = some true)
    (hb : ∀ (O : Org) (e : DX) (pn : List (Addr × Obj)) (xe : Value → Shared → Prop), Ctx O (X.tr pn xe) k e → L2N.Takes (X.tr pn xe) (fun cls d _ H2 => LX X.K O e cls d H2) → PassesOwn (model X.prog X.w) X.A X.env xe → DSs O (X.tr pn xe) body (tb e))
    (hnd : (n == ("__debug__" : Str)) = false := by decide) (hncd : (n == ("__classdict__" : Str)) = false := by decide) (hsw : swapsWithSole [.Name y py] (.Name n pn1) ap.line X.env = pure false := by rfl) (hw : swappedStores [.Name y py] (.Name n pn1) X.env = pure none := by rfl)
    (h1 : (assignEach [.Name y py] X.env).map (·.2) = [assign (.Name y py) X.env] := by rfl) :
    DSt O X (.Try body [.ExceptHandler (some (.Name x np)) (some n) [.Assign [.Name y py] (.Name n pn1) ap] pos'] [] [] pos) (dTryC isa m j tb) := by
  have suite_ : ∀ (a : Addr) (oe : Obj) (cls : Value) (d : Option Addr) (pn : List (Addr × Obj)), L2N.Zn cls d oe → (∃ vs, oe.data = .fields vs) → PSs (X.suite a ((a, oe) :: pn)) [.Assign [.Name y py] (.Name n pn1) ap] (tAsg (tVar i) (gName j)) := fun a oe cls d pn _ _ =>
    pss_one (ps_asg (X := X.suite a ((a, oe) :: pn)) (pe_var hi hvn hnd hncd) (pg_name hN hj hly (.inr hyf)) hsw hw h1)
  have no : L2N.Takes X (fun _ _ _ _ => False) := fun u s' ⟨_, _, _, _, _, _, _, _, _, _, _, _, _, _, _, _, z⟩ => z.elim
  refine ps_weak (L2N.ps_try_trk (tb := fun W Z σ H => ∃ O' e', (∀ cls d σ1 H2, LX X.K O' e' cls d H2 → W cls d σ1 H2) ∧ LS X.K O' (tb e') Z σ H) hs hf hN hi hln hc no (by simp) (fun W pn xe tkW ow => ?_) suite_) ?_
  · refine ⟨fun pins s σ H D I ⟨O', e', hW, h⟩ => ?_⟩
    have tk' : L2N.Takes (X.tr pn xe) (fun cls d _ H2 => LX X.K O' e' cls d H2) := tkW.imp fun cls d σ1 H2 h => hW cls d σ1 H2 h
    exact (hb O' e' pn xe ⟨C.room, C.gd, L2N.passes_call tk' fun _ _ _ _ h => h⟩ tk' ow).run pins s σ H D I h
  · rintro Z σ H ⟨F, δ, μ, E, hd, rs, t, L⟩
    refine ⟨⟨F, H⟩, fun C d μ2 => isa C ∧ E.nx ((List.replicate m none).set j (some (.exc C d))) μ2, ?_, F, δ, μ, E, hd.here, rs, t, L.here hd⟩
    rintro cls dd σ1 H2 ⟨C', dx, w, d, F', μ', rfl, rfl, hx, hd', r, fx, his, q⟩
    refine ⟨true, hsub C' his, fun _ a na hlen => ?_, fun z => nomatch z⟩
    have il : i < σ1.length := by rw [hlen]; exact (List.getElem?_eq_some_iff.mp hi).1
    refine ⟨.ref a, by rw [List.getElem?_set_self il], fun oe zn hfl na' => ?_⟩
    have ne : dx ≠ a := fun z => by rw [z, na] at hx; cases hx
    have ex := hd'.org.trans (ext_newF (o := exh oe) hd' na)
    refine L.nx (addF F' a) _ μ' _ _ ex (hd.back (hd'.newF na)).1 ⟨?_, fun u d0 e0 => ?_⟩ q
    · simp [hlen, hm]
    · by_cases z : u = j
      · subst z
        have jl : u < m := by rw [← hm]; exact (List.getElem?_eq_some_iff.mp hj).1
        rw [List.getElem?_set_self (by simpa using jl)] at e0
        obtain rfl := Option.some.inj (Option.some.inj e0)
        refine ⟨.ref a, ?_, a, oe, dx, w, rfl, ⟨.inr rfl, upd_same⟩, ⟨zn.1, zn.2.1, hfl⟩, ⟨.inl fx, by rw [upd_ne ne]; exact hx⟩, r.ext (ext_newF hd' na)⟩
        rw [List.getElem?_set_ne hij, List.getElem?_set_self (by rw [List.length_set, hlen, hm]; exact jl)]
      · rw [List.getElem?_set_ne (Ne.symm z)] at e0
        have := List.mem_of_getElem? e0
        rw [List.mem_replicate] at this
        exact absurd this.2 (by simp)
end
end DL

set_option Elab.async false
set_option linter.all false
set_option maxRecDepth 100000
set_option maxHeartbeats 2000000
/-! DXI: isinstance(e, C), isinstance(e, (C, ..)), e.value of an exception that is kept -/
namespace L2
open PySem PySem.Spec PyProof.Rows
/-- an exception that is tracked -/
structure ExAt (H : Hp) (a : Addr) (oe : Obj) (C dx : Addr) (v : V) : Prop where
  at_ : H a = some (DL.exh oe)
  cls : oe.cls = .ref C
  dict : oe.dict = some dx
  dat : ∃ vs, oe.data = .fields vs
  xd : H dx = some (.xd [(("value" : Str), v)])
theorem ExAt.inst {P : Program} {w : World} {H : Hp} {h : Heap} {a : Addr} {oe : Obj} {C dx : Addr} {v : V} (x : ExAt H a oe C dx v) (ok : HOk P w H h) : ∃ od u, PySem.W.InstAt h a oe C (some od) ∧ PySem.W.lookIn "value" od = some (some u) ∧ RelV v u := by
  obtain ⟨hget, _⟩ : ObjOk P w H h a (DL.exh oe) := ok a _ x.at_
  have hx : ObjOk P w H h dx (.xd [(("value" : Str), v)]) := ok dx _ x.xd
  obtain ⟨mA, hns, hr⟩ := hx
  obtain ⟨od, ho, hl⟩ := lookIn_ns hns
  have l : List.lookup ("value" : Str) [(("value" : Str), v)] = some v := by simp [List.lookup]
  obtain ⟨u, hu, ru⟩ := RelO.some_of (v := v) (o := mA "value") (by rw [← l]; exact hr "value")
  obtain ⟨vs, hd⟩ := x.dat
  exact ⟨od, u, ⟨hget, x.cls, by unfold PySem.W.notCls; rw [hd] <;> rfl, by rw [x.dict]; exact ho⟩, by rw [hl, hu], ru⟩
/-- isinstance(e, c) -/
def rIsX (K : PySem.W.Frag) : List V → Hp → VK → Prop := fun xs H Q => ∃ (a : Addr) (oe : Obj) (C dx : Addr) (v c : V) (cv : Value) (b : Bool), xs = [.ref a, c] ∧ ExAt H a oe C dx v ∧ (∀ u, RelV c u → u = cv) ∧ ExcC K C ∧ PySem.W.kitOne K (.ref C) cv = some b ∧ Q (.bl b) H
theorem call_isX {X : Cx} : CallR X (.builtin "isinstance") (rIsX X.K) := by
  intro pins s σ H xs us Q I r h
  obtain ⟨a, oe, C, dx, v, c, cv, b, rfl, x, hcv, T, e, q⟩ := h
  cases r with
  | cons rx rr =>
    cases rr with
    | cons rt rr =>
      cases rr
      cases rx
      obtain rfl := hcv _ rt
      obtain ⟨od, u, J, _⟩ := x.inst I.hok
      have hcl : (PySem.W.clsIn X.K C).isSome = true := by
        obtain ⟨cd, hc, _⟩ := PySem.W.any_some T.hd
        rw [hc]; rfl
      exact PySem.W.kia_one (PySem.W.kitx_exc hcl T.hg T.hk T.hs T.ha T.hn T.ht T.hm) I.kIn J e (fun z => nomatch z) fun tk => ⟨.bl b, H, I.kept (t' := tk) fun _ _ z => z, rfl, q⟩
/-- isinstance(e, (c, ..)) -/
def rIsXT (K : PySem.W.Frag) : List V → Hp → VK → Prop := fun xs H Q => ∃ (a tp : Addr) (oe : Obj) (C dx : Addr) (v : V) (cs : List V) (its : List Value) (b : Bool), xs = [.ref a, .ref tp] ∧ ExAt H a oe C dx v ∧ SqT K H tp cs ∧ (∀ us, Vals cs us → us = its) ∧ ExcC K C ∧ PySem.W.kitAny K (.ref C) its = some b ∧ Q (.bl b) H
theorem call_isXT {X : Cx} : CallR X (.builtin "isinstance") (rIsXT X.K) := by
  intro pins s σ H xs us Q I r h
  obtain ⟨a, tp, oe, C, dx, v, cs, its, b, rfl, x, htp, hcs, T, e, q⟩ := h
  cases r with
  | cons rx rr =>
    cases rr with
    | cons rt rr =>
      cases rr
      cases rx
      cases rt
      obtain ⟨us, vu, ⟨o, g1, g2, n, g3⟩, _⟩ := I.tuple htp
      obtain rfl := hcs _ vu
      obtain ⟨oc, od', oda, osl⟩ := o
      dsimp only at g2 g3
      subst g2 g3
      obtain ⟨od, u, J, _⟩ := x.inst I.hok
      have hcl : (PySem.W.clsIn X.K C).isSome = true := by
        obtain ⟨cd, hc, _⟩ := PySem.W.any_some T.hd
        rw [hc]; rfl
      exact PySem.W.kia_tup (PySem.W.kitx_exc hcl T.hg T.hk T.hs T.ha T.hn T.ht T.hm) I.kIn J g1 e (fun z => nomatch z) fun tk => ⟨.bl b, H, I.kept (t' := tk) fun _ _ z => z, rfl, q⟩
/-- e.value -/
def tXVal (K : PySem.W.Frag) (mg : Str → Option Value) (te : TE) : TE := fun σ H Q => te σ H fun x H1 => ∃ (a : Addr) (oe : Obj) (C dx : Addr) (v : V) (nn : Str) (fI : Addr), x = .ref a ∧ ExAt H1 a oe C dx v ∧ PySem.ErrX.ErrTxt K mg nn C fI ∧ Q v H1
theorem pe_xval {X : Cx} {e : Expr} {te : TE} {pos : Pos} (he : PE X e te) (hb : attributeBase e "value" X.env (eval e X.env) = eval e X.env := by rfl) : PE X (.Attribute e "value" pos) (tXVal X.K X.mg te) := by
  refine ⟨fun pins s σ H Q I h => ?_⟩
  refine attr_of hb (thn (he.run pins s σ H _ I h) fun u s1 hh => ?_)
  obtain ⟨x, H1, I1, rx, a, oe, C, dx, v, nn, fI, rfl, xa, T, q⟩ := hh
  obtain rfl : u = Value.ref a := rx
  obtain ⟨od, w, J, hw, ru⟩ := xa.inst I1.hok
  exact HandSPX.exc_get I1.kIn J T.ga T.gg T.exC (PySem.W.findObj_own T.hdC T.noN rfl hw) (handed_of ru) ⟨v, H1, I1.tok _, ru, q⟩
end L2
namespace DL
open PySem L2
/-- the answers of isinstance: class of the exception, class asked for, answer -/
def rIsD (tab : List (Addr × D × Bool)) : DC2 := fun ds μ q => match ds with | [.exc C _, y] => ∃ b, (C, y, b) ∈ tab ∧ q (.bl b) μ | _ => False
/-- .. a tuple of classes -/
def rIsTD (tab : List (Addr × List D × Bool)) : DC2 := fun ds μ q => match ds with | [.exc C _, .tup l] => ∃ b, (C, l, b) ∈ tab ∧ q (.bl b) μ | _ => False
/-- a class as a datum -/
def clsV : D → Option Value
  | .adr a => some (.ref a)
  | .typ n => some (.type n)
  | _ => none
def clsVs : List D → Option (List Value)
  | [] => some []
  | d :: l => match clsV d, clsVs l with
    | some v, some vs => some (v :: vs)
    | _, _ => none
def IsTab (K : PySem.W.Frag) (tab : List (Addr × D × Bool)) : Prop := ∀ C y b, (C, y, b) ∈ tab → ExcC K C ∧ ∃ cv, clsV y = some cv ∧ PySem.W.kitOne K (.ref C) cv = some b
def IsTabT (K : PySem.W.Frag) (tab : List (Addr × List D × Bool)) : Prop := ∀ C l b, (C, l, b) ∈ tab → ExcC K C ∧ ∃ its, clsVs l = some its ∧ PySem.W.kitAny K (.ref C) its = some b
section
variable {K : PySem.W.Frag} {F : Zo} {H : Hp}
theorem cls_rep {d : D} {v : V} {cv : Value} (h : clsV d = some cv) (r : Rep K F H d v) : ∀ u, RelV v u → u = cv := by
  intro u ru
  cases d <;> first | (simp [clsV] at h; done) | skip
  · obtain rfl := Option.some.inj h
    obtain rfl : v = _ := r
    exact ru
  · obtain rfl := Option.some.inj h
    obtain rfl : v = _ := r
    exact ru
theorem clss_rep : ∀ {l : List D} {vs : List V} {its : List Value}, clsVs l = some its → RepL K F H l vs → ∀ us, Vals vs us → us = its
  | [], _, its, h, r, us, k => by
    obtain rfl : _ = [] := r
    cases k
    exact (Option.some.inj h).symm ▸ rfl
  | d :: l, _, its, h, ⟨v, r, e, h1, h2⟩, us, k => by
    subst e
    unfold clsVs at h
    cases e1 : clsV d with
    | none => rw [e1] at h; cases h
    | some cv =>
      cases e2 : clsVs l with
      | none => rw [e1, e2] at h; cases h
      | some cvs =>
        rw [e1, e2] at h
        obtain rfl := Option.some.inj h
        cases k with
        | cons a b => rw [cls_rep e1 h1 _ a, clss_rep e2 h2 _ b]
theorem exc_at {C : Addr} {d : D} {x : V} (r : Rep K F H (.exc C d) x) : ∃ a oe dx v, x = .ref a ∧ ExAt H a oe C dx v ∧ Rep K F H d v := by
  obtain ⟨a, oe, dx, v, rfl, ⟨_, h1⟩, ⟨h2, h3, h4⟩, ⟨_, h5⟩, h6⟩ := r
  exact ⟨a, oe, dx, v, rfl, ⟨h1, h2, h3, h4, h5⟩, h6⟩
end
theorem cd_isX {K : PySem.W.Frag} {tab : List (Addr × D × Bool)} (ht : IsTab K tab) : CallD K (rIsX K) (rIsD tab) := by
  intro O F H μ ds vs q Q hd rs t k
  unfold rIsD at t
  split at t
  · rename_i C d y
    obtain ⟨v, w, rfl, h1, h2⟩ := repL2 rs
    obtain ⟨b, hm, t⟩ := t
    obtain ⟨a, oe, dx, u, rfl, x, _⟩ := exc_at h1
    obtain ⟨T, cv, e1, e2⟩ := ht C y b hm
    exact ⟨a, oe, C, dx, u, w, cv, b, rfl, x, cls_rep e1 h2, T, e2, k F H μ _ _ (Ext.refl F H) hd rep_bl t⟩
  · exact t.elim
theorem cd_isXT {K : PySem.W.Frag} {tab : List (Addr × List D × Bool)} (ht : IsTabT K tab) : CallD K (rIsXT K) (rIsTD tab) := by
  intro O F H μ ds vs q Q hd rs t k
  unfold rIsTD at t
  split at t
  · rename_i C d l
    obtain ⟨v, w, rfl, h1, h2⟩ := repL2 rs
    obtain ⟨b, hm, t⟩ := t
    obtain ⟨a, oe, dx, u, rfl, x, _⟩ := exc_at h1
    obtain ⟨tp, cs, rfl, h3, h4⟩ := h2
    obtain ⟨T, its, e1, e2⟩ := ht C l b hm
    exact ⟨a, tp, oe, C, dx, u, cs, its, b, rfl, x, h3.sq, clss_rep e1 h4, T, e2, k F H μ _ _ (Ext.refl F H) hd rep_bl t⟩
  · exact t.elim
/-- e.value; isa: the classes whose text is known -/
def dXVal (isa : Addr → Prop) (te : DTE) : DTE := fun δ μ q => te δ μ fun x μ1 => match x with | .exc C d => isa C ∧ q d μ1 | _ => False
theorem de_xval {O : Org} {X : Cx} {e : Expr} {te : DTE} {pos : Pos} {isa : Addr → Prop} (hT : ∀ C, isa C → ∃ nn fI, PySem.ErrX.ErrTxt X.K X.mg nn C fI) (he : DE O X e te) (hb : attributeBase e "value" X.env (eval e X.env) = eval e X.env := by rfl) : DE O X (.Attribute e "value" pos) (dXVal isa te) :=
  pe_weak (pe_xval he hb) fun σ H Q ⟨F, δ, μ, q, hd, rs, t, k⟩ => ⟨F, δ, μ, _, hd, rs, t, fun F1 H1 μ1 x v e1 hd1 r1 t1 => by
    cases x <;> first | exact False.elim t1 | skip
    rename_i C d
    obtain ⟨his, t1⟩ := t1
    obtain ⟨a, oe, dx, w, rfl, xa, rw_⟩ := exc_at r1
    obtain ⟨nn, fI, T⟩ := hT C his
    exact ⟨a, oe, C, dx, w, nn, fI, rfl, xa, T, k F1 H1 μ1 d w e1 hd1 rw_ t1⟩⟩
end DL
namespace DL
open PySem L2
theorem excC_of {K : PySem.W.Frag} {mg : Str → Option Value} {nn : Str} {C fI : Addr} (T : PySem.ErrX.ErrTxt K mg nn C fI) (ha : PySem.W.findIn K (.ref C) "__class__" = some (some (.builtin "object.__class__"))) (hn : PySem.W.specialIn K (.builtin "object.__class__") "__get__" = some (some (.builtin "getset_descriptor.__get__")))
    (ht : PySem.W.takesIn K (.builtin "object.__class__") = some true) (hm : PySem.W.mroIn K C (.type "object") = some true) : ExcC K C := ⟨T.ga, T.gg, T.exC, T.hdC, ha, hn, ht, hm⟩
theorem kit_of_sub {K : PySem.W.Frag} {C D : Addr} {b : Bool} (hc : PySem.W.isClsIn K D = true) (ht : PySem.W.typeIn K (.ref D) = some (.type "type")) (hr : PySem.W.subIn K (.ref C) (.ref C) = some true) (hs : PySem.W.subIn K (.ref C) (.ref D) = some b) : PySem.W.kitOne K (.ref C) (.ref D) = some b := by
  unfold PySem.W.kitOne
  by_cases z : (Value.ref C == Value.ref D) = true
  · rw [if_pos z]
    obtain rfl := Value.ref.inj (beq_iff_eq.mp z)
    rw [hr] at hs
    exact hs
  · rw [if_neg z]
    unfold PySem.W.kitCls
    have hc' : (PySem.W.clsIn K D).isSome = true := hc
    dsimp only
    rw [hc', ht]
    exact hs
theorem kit_of_typ {K : PySem.W.Frag} {C : Addr} {T : String} {b : Bool} (hk : PySem.W.kitMeta T = true) (hs : PySem.W.subIn K (.ref C) (.type T) = some b) : PySem.W.kitOne K (.ref C) (.type T) = some b := by
  unfold PySem.W.kitOne
  rw [if_neg (by simp)]
  unfold PySem.W.kitCls
  dsimp only
  rw [if_pos hk]
  exact hs
theorem kitany_nil {K : PySem.W.Frag} {t : Value} : PySem.W.kitAny K t [] = some false := rfl
theorem kitany_f {K : PySem.W.Frag} {t c : Value} {cs : List Value} {b : Bool} (h : PySem.W.kitOne K t c = some false) (r : PySem.W.kitAny K t cs = some b) : PySem.W.kitAny K t (c :: cs) = some b := by
  unfold PySem.W.kitAny; rw [h]; exact r
theorem kitany_t {K : PySem.W.Frag} {t c : Value} {cs : List Value} (h : PySem.W.kitOne K t c = some true) : PySem.W.kitAny K t (c :: cs) = some true := by
  unfold PySem.W.kitAny; rw [h]
theorem exl_nil {P : Addr → Prop} : ∀ C ∈ ([] : List Addr), P C := fun _ h => nomatch h
theorem exl_cons {P : Addr → Prop} {C : Addr} {l : List Addr} (h : P C) (r : ∀ D ∈ l, P D) : ∀ D ∈ C :: l, P D := fun D hD => by
  rcases List.mem_cons.mp hD with rfl | z
  · exact h
  · exact r D z
theorem istab_nil {K : PySem.W.Frag} : IsTab K [] := fun _ _ _ h => nomatch h
theorem istab_cons {K : PySem.W.Frag} {C : Addr} {y : D} {b : Bool} {tab : List (Addr × D × Bool)} {cv : Value} (T : ExcC K C) (e : clsV y = some cv) (h : PySem.W.kitOne K (.ref C) cv = some b) (r : IsTab K tab) : IsTab K ((C, y, b) :: tab) := fun C' y' b' h' => by
  rcases List.mem_cons.mp h' with z | z
  · cases z; exact ⟨T, cv, e, h⟩
  · exact r C' y' b' z
theorem istabT_nil {K : PySem.W.Frag} : IsTabT K [] := fun _ _ _ h => nomatch h
theorem istabT_cons {K : PySem.W.Frag} {C : Addr} {l : List D} {b : Bool} {tab : List (Addr × List D × Bool)} {its : List Value} (T : ExcC K C) (e : clsVs l = some its) (h : PySem.W.kitAny K (.ref C) its = some b) (r : IsTabT K tab) : IsTabT K ((C, l, b) :: tab) := fun C' l' b' h' => by
  rcases List.mem_cons.mp h' with z | z
  · cases z; exact ⟨T, its, e, h⟩
  · exact r C' l' b' z
end DL

set_option Elab.async false
set_option linter.all false
set_option maxRecDepth 100000
set_option maxHeartbeats 2000000
/-! DXJ: l.count(b), l.index(b) over truths; a text's split -/
namespace L2
open PySem PySem.Spec PyProof.Rows
theorem bools_of_vals : ∀ {bs : List Bool} {its : List Value}, Vals (bs.map V.bl) its → its = bs.map Value.bool
  | [], its, h => by cases h; rfl
  | b :: bs, its, h => by
    cases h with
    | cons r t => rw [bools_of_vals t]; cases r; rfl
theorem countP_bools (k : Bool) : ∀ bs : List Bool, (bs.map Value.bool).countP (isBoolOf k) = bs.count k
  | [] => rfl
  | b :: bs => by
    rw [List.map_cons, List.countP_cons, List.count_cons, countP_bools k bs]; rfl
def rCntB (K : PySem.W.Frag) : V → List V → Hp → VK → Prop := fun x xs H Q => ∃ (p : Addr) (bs : List Bool) (k : Bool), x = .ref p ∧ xs = [.bl k] ∧ SqL K H p (bs.map V.bl) ∧ Q (.int (bs.count k : Nat)) H
theorem mt_lcountB {X : Cx} : MtR X "list.count" (rCntB X.K) := by
  intro pins s σ H x xs v us Q I rx rxs h
  obtain ⟨p, bs, k, rfl, rfl, hs, q⟩ := h
  cases rx
  obtain ⟨u, rfl, ru⟩ := rxs.one
  cases ru
  obtain ⟨its, rv, ⟨⟨cls, dd, data, sl⟩, n, ho, hc, hdn, hd⟩, hlen⟩ := I.list hs
  simp only at hc hd
  subst hc hd
  obtain rfl := bools_of_vals rv
  refine call_meets PySem.F.slot_list_count ⟨_, ho, rfl⟩ PySem.F.entry_list_count (PySem.F.args_list_count_2 _ _)
    (SeqAt.list_countAt p (bs.map Value.bool).toArray n dd sl (.bool k) (isBoolOf k)) ⟨ho, fun y hy => ?_, ?_⟩
  · obtain ⟨b, _, rfl⟩ := List.mem_map.mp (show y ∈ bs.map Value.bool by simpa using hy)
    exact SeqAt.EqAt.bool_bool b k
  · refine ⟨.int (bs.count k : Nat), H, I.tok _, ⟨s.toks, ?_⟩, q⟩
    show Value.int (((bs.map Value.bool).countP (isBoolOf k) : Nat) : Int) s.toks = Value.int ((bs.count k : Nat) : Int) s.toks
    rw [countP_bools]
end L2
namespace DL
open PySem L2
/-- l.count(x), truths -/
def dCountB (tl te : DTE) : DTE := fun δ μ q => tl δ μ fun x μ1 => (∃ l, lstOf μ1 x = some l) ∧ te δ μ1 fun y μ2 => match y with
  | .bl k => ∃ bs : List Bool, lstOf μ2 x = some (bs.map D.bl) ∧ q (.int (bs.count k : Nat)) μ2
  | _ => False
/-- l.index(x), truths -/
def dIndexB (tl te : DTE) : DTE := fun δ μ q => tl δ μ fun x μ1 => (∃ l, lstOf μ1 x = some l) ∧ te δ μ1 fun y μ2 => match y with
  | .bl k => ∃ (bs : List Bool) (j : Nat), lstOf μ2 x = some (bs.map D.bl) ∧ bs[j]? = some k ∧ (∀ m, m < j → bs[m]? = some (!k)) ∧ q (.int (j : Nat)) μ2
  | _ => False
section
variable {O : Org} {X : Cx} {o e : Expr} {tl te : DTE} {pos apos : Pos}
theorem de_countB (h : PE X (.Call (.Attribute o "count" apos) [e] [] pos) (tBM X.K "list" (rCntB X.K) (LE X.K O tl) (tCons (LE X.K O te) tNil))) : DE O X (.Call (.Attribute o "count" apos) [e] [] pos) (dCountB tl te) :=
  pe_weak h fun σ H Q ⟨F, δ, μ, q, hd, rs, t, k⟩ => ⟨F, δ, μ, _, hd, rs, t, fun F1 H1 μ1 x v e1 hd1 r1 ⟨⟨l0, hl0⟩, t1⟩ => by
    obtain ⟨a, vs, rfl, h1, h2⟩ := list_sq hd1 r1 hl0
    refine ⟨.inl ⟨rfl, vs, h1⟩, F1, δ, μ1, _, hd1, rs.ext e1, t1, fun F2 H2 μ2 y u e2 hd2 r2 t2 => ?_⟩
    cases y <;> first | exact False.elim t2 | skip
    rename_i b
    obtain rfl : u = .bl b := r2
    obtain ⟨bs, hl, t2⟩ := t2
    obtain ⟨c, ws, ec, g1, g2⟩ := list_sq hd2 (Rep.ext e2 x (.ref a) r1) hl
    cases ec
    obtain rfl := g2.bools
    exact ⟨a, bs, b, rfl, rfl, g1, k F2 H2 μ2 _ _ (e1.trans e2) hd2 rep_int t2⟩⟩
theorem de_indexB (h : PE X (.Call (.Attribute o "index" apos) [e] [] pos) (tBM X.K "list" (rIndex X.K) (LE X.K O tl) (tCons (LE X.K O te) tNil))) : DE O X (.Call (.Attribute o "index" apos) [e] [] pos) (dIndexB tl te) :=
  pe_weak h fun σ H Q ⟨F, δ, μ, q, hd, rs, t, k⟩ => ⟨F, δ, μ, _, hd, rs, t, fun F1 H1 μ1 x v e1 hd1 r1 ⟨⟨l0, hl0⟩, t1⟩ => by
    obtain ⟨a, vs, rfl, h1, h2⟩ := list_sq hd1 r1 hl0
    refine ⟨.inl ⟨rfl, vs, h1⟩, F1, δ, μ1, _, hd1, rs.ext e1, t1, fun F2 H2 μ2 y u e2 hd2 r2 t2 => ?_⟩
    cases y <;> first | exact False.elim t2 | skip
    rename_i b
    obtain rfl : u = .bl b := r2
    obtain ⟨bs, j, hl, hj, hm, t2⟩ := t2
    obtain ⟨c, ws, ec, g1, g2⟩ := list_sq hd2 (Rep.ext e2 x (.ref a) r1) hl
    cases ec
    obtain rfl := g2.bools
    refine ⟨a, _, .bl b, j, .bl b, rfl, rfl, g1, rfl, ?_, by rw [List.getElem?_map, hj]; rfl, by simp [eqV], fun m z hmj hz => ?_, k F2 H2 μ2 _ _ (e1.trans e2) hd2 rep_int t2⟩
    · rw [List.all_map, List.all_eq_true]; intro _ _; rfl
    · rw [List.getElem?_map, hm m hmj] at hz
      obtain rfl := Option.some.inj hz
      cases b <;> rfl⟩
/-- a.split(y), a a text that is written out -/
def dSplitC (a : Str) (te : DTE) : DTE := fun δ μ q => te δ μ fun y μ2 => match y with
  | .str b => (b.length == 0) = false ∧ a.length + 2 ≤ sizeLine ∧ q (.lst ((Txt.split a b).map D.str)) μ2
  | _ => False
theorem rep_strs {K : PySem.W.Frag} {F : Zo} {H : Hp} : ∀ l : List Str, RepL K F H (l.map D.str) (l.map V.str)
  | [] => RepL.nil
  | x :: l => .cons (show Rep K F H (.str x) (.str x) from rfl) (rep_strs l)
theorem de_split {O : Org} {X : Cx} {o e : Expr} {te : DTE} {apos pos : Pos} {a : Str} (ho : DE O X o (dC (.str a))) (he : DE O X e te) (hs : starEach [e] X.env = [(false, eval e X.env)] := by rfl)
    (hbase : attributeBase o "split" X.env (eval o X.env) = eval o X.env := by rfl) (hline : (apos.endLine == pos.line) = true := by rfl) : DE O X (.Call (.Attribute o "split" apos) [e] [] pos) (dSplitC a te) :=
  pe_weak (pe_splitAny ho he hs hbase hline) fun σ H Q ⟨F, δ, μ, q, hd, rs, t, k⟩ => ⟨F, δ, μ, fun x μ1 => x = .str a ∧ dSplitC a te δ μ1 q, hd, rs, ⟨rfl, t⟩, fun F1 H1 μ1 x v e1 hd1 r1 ⟨ex, t1⟩ => by
    subst ex
    obtain rfl : v = .str a := r1
    refine ⟨⟨a, rfl⟩, F1, δ, μ1, _, hd1, rs.ext e1, t1, fun F2 H2 μ2 y u e2 hd2 r2 t2 => ?_⟩
    cases y <;> first | exact False.elim t2 | skip
    rename_i b
    obtain rfl : u = .str b := r2
    obtain ⟨hb, ha, t2⟩ := t2
    refine .inl ⟨a, b, rfl, rfl, hb, ha, fun p hp => ?_⟩
    exact k _ _ μ2 (.lst ((Txt.split a b).map D.str)) _ ((e1.trans e2).trans (ext_newF hd2 hp)) (hd2.newF hp) ⟨p, _, rfl, ⟨.inr rfl, upd_same⟩, rep_strs _⟩ t2⟩
end
end DL

set_option Elab.async false
set_option linter.all false
set_option maxRecDepth 100000
set_option maxHeartbeats 2000000
/-! DHD: the head's facts over data -/
namespace DL
open PySem L2 PySem.Spec PyProof.Rows
theorem tupN_ok {K : PySem.W.Frag} {a : Addr} {ns : List Int} (h : tupN K a ns = true) : ∀ F H, Rep K F H (.tup (ns.map D.int)) (.ref a) := by
  unfold tupN at h
  split at h
  · rename_i c od its n sl e
    obtain ⟨h1, h2⟩ := Bool.and_eq_true_iff.mp h
    obtain ⟨h3, h4⟩ := Bool.and_eq_true_iff.mp h2
    obtain rfl := of_decide_eq_true h1
    exact rep_tupI ns (us := its.toList) (by simpa using e) (of_decide_eq_true h3) (He.relAll_ok h4)
  · cases h
/-- the empty tuple -/
theorem tup0_ok {K : PySem.W.Frag} {a : Addr} (h : tupN K a [] = true) : ∀ F H, RepL K F H [.tup []] [.ref a] := fun F H => .cons (tupN_ok h F H) RepL.nil
/-- __init__ of the exceptions -/
theorem init_txt {K : PySem.W.Frag} {d : DefA} {p1 p2 q1 q2 q3 q4 : Pos} (e : fnA K (d.adr K) = d.val) (c : d.ok K = true) (h : d.dfl K = []) (hn : d.name = "__init__") (hq : d.qual = "StrideError.__init__") (ha : defArgs d.st = PySem.ErrX.iA p1 p2) (hb : defBody d.st = PySem.ErrX.iB q1 q2 q3 q4) (hs : defScope d.st = PySem.ErrX.iS) :
    ∃ (oc : Value) (od : Option Addr) (doc pm : Value) (an : Option Addr) (cdv ct : Value) (osl : Array (Option Value)) (p1 p2 q1 q2 q3 q4 : Pos),
      K.lookup (d.adr K) = some ⟨oc, od, .func (PySem.W.fnOf "__init__" "StrideError.__init__" (PySem.ErrX.iA p1 p2) (PySem.ErrX.iB q1 q2 q3 q4) PySem.ErrX.iS .none .none doc pm an cdv ct), osl⟩ ∧ PySem.W.codeIn K cdv "StrideError.__init__" = true := by
  obtain ⟨oc, od, dV, doc, pm, an, cdv, ct, osl, lk, cd, df, kp⟩ := DefA.is e c
  rw [h] at df
  rcases df with ⟨_, rfl⟩ | ⟨z, _⟩
  · rw [hn, hq, ha, hb, hs] at lk
    rw [hq] at cd
    exact ⟨oc, od, doc, pm, an, cdv, ct, osl, p1, p2, q1, q2, q3, q4, lk, cd⟩
  · exact absurd rfl z
/-- the goal behind the head, from the law's promise over data -/
theorem walkA {l : PySem.W.OpenLaw} {k : Nat} {q : Program} {loose : List Str} {XP : (Str → Option Value) → Heap → Prop} {YP : World → Heap → Prop} {d : DefRec} {x : Str}
    (most : l.most = some 63) (nodef : d.params.defaults = []) (room : Room k callerA)
    (F : ∀ (w : World) (mg : Str → Option Value) (fa : Addr) (h : Heap), YP w h → h.Ns mainGlobals mg → mg d.name = some (.ref fa) →
      ∃ (K : PySem.W.Frag) (fd : FuncData), K.In h ∧ (∀ (s : Shared) (u : Value), BindsTo s fd ⟨[u], []⟩ [(x, u)]) ∧
        ∀ base : Heap, K.In base → base.Ns mainGlobals mg → FnG l.prog w K mg base k fa fd [x] (LSp K spLawD)) :
    PySem.W.WalkO q loose XP YP l.row.toRowW d [] (fun f vs => PySem.call f vs) := by
  refine Att.attach_call most nodef ?_
  intro w s0 s1 mg mb fa o pm cd doc a vs ns G Y ho hdo hcd hmg hobj hints hlen hgen
  obtain ⟨K, fd, inK, bnd, hF⟩ := F w mg fa _ Y G.T.g hmg
  exact lawG_call inK G.T.g G.T.b G.T.builtins G.T.nolimit hgen hobj hints hlen room hF bnd
end DL
namespace DL
open PySem L2
theorem hits_int {K : PySem.W.Frag} {d : Addr} {tab : List (Str × D)} {w : Str} {i : Int} (h : ∃ t, PySem.W.nsIn K d w = some (some (.int i t))) (r : Hits K d tab) : Hits K d ((w, .int i) :: tab) := by
  obtain ⟨t, h⟩ := h
  exact hits_cons h (v := .int i) ⟨t, rfl⟩ (fun _ _ => rfl) r
end DL

set_option Elab.async false
set_option linter.all false
set_option maxRecDepth 100000
set_option maxHeartbeats 2000000
/-! DH0: walks that end while an exception is handled -/
namespace HotX
open PySem PySem.Spec PyProof.Rows
section
variable {prog : Program} {w : World} {A : Around} {E : Value → Shared → Prop} {s : Shared}
/-- an object of few fields is not the handled one -/
theorem HotAt.off {a b : Addr} {h : Heap} {o : Obj} {u v : Value} (hot : HotAt A a h) (e : h.get? b = some o) (d : o.data = .fields #[u, v]) : b ≠ a := by
  rintro rfl
  obtain ⟨-, o1, fs, e1, d1, c1⟩ := hot
  obtain rfl := Option.some.inj (e.symm.trans e1)
  obtain rfl := Data.fields.inj (d.symm.trans d1)
  simp at c1
theorem HotAt.mv {a : Addr} {h h' : Heap} (hot : HotAt A a h) (k : ∀ o, h.get? a = some o → h'.get? a = some o) : HotAt A a h' :=
  let ⟨p, o, fs, e, q⟩ := hot
  ⟨p, o, fs, k o e, q⟩
theorem HotAt.there {a : Addr} {h : Heap} (hot : HotAt A a h) : a < h.objs.size := let ⟨_, _, _, e, _⟩ := hot; Heap.lt_size e
/-- the walk's end is raised: the new exception takes the handled one for its context -/
theorem stop_hot {α : Type} {a : Addr} {Q : α → Shared → Prop} {f : Value → Sem α} (hot : HotAt A a s.heap) (hf : ∀ v, f v = raiseNew v)
    (k : ∀ x h', (∀ b o, s.heap.get? b = some o → h'.get? b = some o) → ({ s with heap := h' } : Shared).TypeIs (.ref x) "StopIteration" → E (.ref x) { s with heap := h' }) :
    wpAny (model prog w) A (newExc (.type "StopIteration") [] >>= f) Q E s := by
  have lt := hot.there
  refine wpAny_bind ?_
  simp only [newExc, newTuple]
  refine wpAny_bind (wpAny_newObj_type (wpAny_bind (m := firstArgMember _ _) (wpAny_of_eq (a := Value.none) ?arg ?_)) (by size_fits))
  case arg => first | rfl | (simp only [firstArgMember]; rfl)
  refine wpAny_newObj_type ?_ (by size_fits)
  rw [hf]
  refine raiseNew_hot (x1 := a) (hot.mv fun o e => Heap.get?_push_of_some _ (Heap.get?_push_of_some _ e)) (Nat.ne_of_lt ?_) (Heap.get?_push_size _ rfl) rfl (by simp; try omega) (k _ _ (fun b o e => ?_) ⟨_, Heap.get?_update_self _ (Heap.get?_push_size _ rfl) rfl, rfl⟩)
  · obtain ⟨-, _, _, e, -⟩ := hot
    exact Heap.lt_size (Heap.get?_push_of_some _ e)
  · have e1 := Heap.get?_push_of_some { cls := Value.type "tuple", data := .seq (#[] : Array Value) } e
    exact (Heap.get?_update_other _ _ (Nat.ne_of_gt (Heap.lt_size e1))).trans (Heap.get?_push_of_some _ e1)
theorem list_end_hot {j l a : Addr} {i : Nat} {xs} {Q : Option Value → Shared → Prop} (hot : HotAt A a s.heap)
    (itr : s.heap.IsListIter j l i) (lst : s.heap.IsList l xs) (none_ : xs[i]? = none)
    (q : ∀ h', Heap.ExtBut j s.heap h' → Q none { s with heap := h' }) : wpAny (model prog w) A (pyNext (.ref j)) Q E s := by
  have ty := itr.typeIs
  obtain ⟨oj, ej, cj, dj⟩ := itr
  obtain ⟨ol, el, _, nl, dl⟩ := lst
  have ne := hot.off ej dj
  unfold pyNext
  refine wpAny_bind (wpAny_attempt (wpAny_callSpecial?_slot (name := Str.ofString "__next__") ty slot_listiter_next (wpAny_call_entry slot_listiter_next ty entry_listiter_next ?_ (args_listiter_next _))))
  show wpAny _ _ (field (.ref j) 0 >>= _) _ _ s
  refine wpAny_bind (wpAny_field ej dj (x := .ref l) rfl ?_)
  show wpAny _ _ (if (Value.ref l == Value.none) = true then _ else _) _ _ s
  rw [if_neg (by exact Bool.false_ne_true)]
  show wpAny _ _ (field (.ref j) 1 >>= _) _ _ s
  refine wpAny_bind (wpAny_field ej dj (x := .int i 0) rfl ?_)
  show wpAny _ _ (seqItems? (.ref l) >>= _) _ _ s
  refine wpAny_bind (wpAny_seqItems el dl ?_)
  simp only [Int.toNat_natCast, none_]
  refine wpAny_bind (wpAny_rule (wpAny_bind (wpAny_setField ej dj (by simp) ?_)))
  show wpAny _ _ (newExc (.type "StopIteration") ([] : List Value) >>= fun v => raiseNew v) _ _ _
  refine stop_hot (a := a) (hot.mv fun o e => (Heap.get?_update_other _ _ ne).trans e) (fun _ => rfl) fun x h' k t => ?_
  refine wpAny_bind (wpAny_isInstance (T := "StopIteration") (b := true) t isSubtype_stop (wpAny_pure (q _ fun b o hb e => k b o ?_)))
  exact (Heap.get?_update_other s.heap _ (Ne.symm hb)).trans e
theorem tuple_end_hot {j l a : Addr} {i : Nat} {xs} {Q : Option Value → Shared → Prop} (hot : HotAt A a s.heap)
    (itr : IsTupIter s.heap j l i) (tup : IsTup s.heap l xs) (none_ : xs[i]? = none)
    (q : ∀ h', Heap.ExtBut j s.heap h' → Q none { s with heap := h' }) : wpAny (model prog w) A (pyNext (.ref j)) Q E s := by
  have ty := itr.typeIs
  obtain ⟨oj, ej, cj, dj⟩ := itr
  obtain ⟨ol, el, _, nl, dl⟩ := tup
  have ne := hot.off ej dj
  unfold pyNext
  refine wpAny_bind (wpAny_attempt (wpAny_callSpecial?_slot (name := Str.ofString "__next__") ty slot_tupleiter_next (wpAny_call_entry slot_tupleiter_next ty entry_tupleiter_next ?_ (args_tupleiter_next _))))
  show wpAny _ _ (field (.ref j) 0 >>= _) _ _ s
  refine wpAny_bind (wpAny_field ej dj (x := .ref l) rfl ?_)
  show wpAny _ _ (if (Value.ref l == Value.none) = true then _ else _) _ _ s
  rw [if_neg (by exact Bool.false_ne_true)]
  show wpAny _ _ (field (.ref j) 1 >>= _) _ _ s
  refine wpAny_bind (wpAny_field ej dj (x := .int i 0) rfl ?_)
  show wpAny _ _ (seqItems? (.ref l) >>= _) _ _ s
  refine wpAny_bind (wpAny_seqItems el dl ?_)
  simp only [Int.toNat_natCast, none_]
  refine wpAny_bind (wpAny_rule (wpAny_bind (wpAny_setField ej dj (by simp) ?_)))
  show wpAny _ _ (newExc (.type "StopIteration") ([] : List Value) >>= fun v => raiseNew v) _ _ _
  refine stop_hot (a := a) (hot.mv fun o e => (Heap.get?_update_other _ _ ne).trans e) (fun _ => rfl) fun x h' k t => ?_
  refine wpAny_bind (wpAny_isInstance (T := "StopIteration") (b := true) t isSubtype_stop (wpAny_pure (q _ fun b o hb e => k b o ?_)))
  exact (Heap.get?_update_other s.heap _ (Ne.symm hb)).trans e
theorem unpack_hot {env : Env} {es : List Expr} {m} {pos : Pos} {t a : Addr} {xs : Array Value} {Q : Unit → Shared → Prop} (hot : HotAt A a s.heap) (tup : IsTup s.heap t xs)
    (many : (assignEach es env).length = xs.size) (nostar : (assignEach es env).findIdx? (·.1) = none)
    (q : ∀ h', Heap.ExtBut s.heap.objs.size s.heap h' → wpAny (model prog w) A (assignInOrder ((assignEach es env).map (·.2)) xs.toList) Q E { s with heap := h' }) :
    wpAny (model prog w) A (assign (.Tuple es m pos) env (.ref t)) Q E s := by
  have off : t ≠ s.heap.objs.size := Nat.ne_of_lt (let ⟨_, e, _⟩ := tup; Heap.lt_size e)
  have offa : a ≠ s.heap.objs.size := Nat.ne_of_lt hot.there
  rw [assign_Tuple]
  refine wpAny_bind (wpAny_standAt ?_)
  unfold unpack
  rw [many, nostar]
  refine wpAny_bind (wpAny_holding ?_)
  unfold unpackItems notIterableAtAll
  refine wpAny_bind (wpAny_bind (wpAny_specialOf tup.typeIs slot_tuple_iter.lookup (wpAny_pure ?_)))
  simp only [Bool.false_eq_true, if_false]
  refine wpAny_bind (wpAny_holding (iter_tuple tup ?_))
  refine wpAny_bind (wpAny_holding (draw_tuple off xs.size 0 _ _ ⟨_, Heap.get?_push_size _ rfl, rfl, rfl⟩ (tup.push _) (by omega) fun h1 j1 k1 => ?_))
  have whole : List.take xs.size (List.drop 0 xs.toList) = xs.toList := List.take_of_length_le (by simp)
  rw [whole, if_neg (by simp)]
  refine wpAny_bind (wpAny_holding (tuple_end_hot (a := a) (hot.mv fun o e => k1.extBut _ _ offa (Heap.get?_push_of_some _ e)) j1 ((tup.push _).extBut k1.extBut off) (by simp) fun h2 k2 => ?_))
  simp only [Option.isSome_none, Bool.false_eq_true, if_false]
  exact wpAny_pure (q h2 fun b o hb e => k2 b o hb (k1.extBut b o hb (Heap.get?_push_of_some _ e)))
end
end HotX

set_option Elab.async false
set_option linter.all false
set_option maxRecDepth 100000
set_option maxHeartbeats 2000000
/-! DH1: while a tracked exception is handled: unpacking, walks, comprehensions -/
namespace L2
open PySem PySem.Spec PyProof.Rows
open DL (exh)
/-- the handled exception is tracked, its context is None -/
def HotH (A : Around) (H : Hp) : Prop := ∃ (a : Addr) (oe : Obj) (fs : Array Value), A.handled = some (.ref a) ∧ H a = some (exh oe) ∧ oe.data = .fields fs ∧ fs[2]? = some .none
section
variable {X : Cx} {pins : List (Addr × Obj)} {σ : L2.St} {H : Hp} {s : Shared} {pos : Pos}
theorem HotH.at (h : HotH X.A H) (I : Inv X pins σ H s) : ∃ a, HotX.HotAt X.A a s.heap := by
  obtain ⟨a, oe, fs, hh, ha, hd, hc⟩ := h
  obtain ⟨g, _⟩ : ObjOk X.prog X.w H s.heap a (exh oe) := I.hok a _ ha
  exact ⟨a, hh, oe, fs, g, hd, hc⟩
def gTupH (A : Around) (K : PySem.W.Frag) (n : Nat) (t : TGs) : TG := fun v σ H Q => HotH A H ∧ gTup K n t v σ H Q
theorem pg_tupH {es : List Expr} {k : Nat} {t : TGs} {n : Nat} (parts : PGs X es t) (many : (assignEach es X.env).length = n := by rfl) (nostar : (assignEach es X.env).findIdx? (·.1) = none := by rfl) : PG X (.Tuple es k pos) (gTupH X.A X.K n t) := by
  constructor
  rintro pins s σ H v u Q I rel ⟨hot, a, xs, rfl, tup, len, rest⟩
  cases rel
  obtain ⟨ah, at_⟩ := hot.at I
  obtain ⟨its, vals, is, _⟩ := I.tuple tup
  refine HotX.unpack_hot at_ is (by rw [many, ← len, vals.length]; simp) nostar fun h' ext => ?_
  exact parts.run pins _ σ H xs _ Q (I.kept (t' := s.toks) fun b o e => ext b o (Nat.ne_of_lt (Heap.lt_size e)) e) (by simpa using vals) rest
/-- as Turn, the end while the exception is handled -/
structure TurnO (P : Program) (w : World) (K : PySem.W.Frag) (tg : Expr) (J : It) (fp : List Addr) (it : Addr) (tn : Nat → Heap → Prop) : Prop where
  obj : ∀ i h, tn i h → ∀ b ∈ fp, ∃ o, h.get? b = some o ∧ ∀ v, o.data ≠ .cell v
  keep : ∀ i h h', tn i h → (∀ b ∈ fp, ∀ o, h.get? b = some o → h'.get? b = some o) → tn i h'
  next : ∀ X : Cx, X.prog = P → X.w = w → X.K = K → ∀ (i : Nat) (pins : List (Addr × Obj)) (s : Shared) (σ : L2.St) (H : Hp) (E : Value → Shared → Prop), Inv X pins σ H s → (∀ b ∈ fp, FpOk X pins H b) → tn i s.heap → J.go i H →
    wpAny (model P w) X.A (pyNext (.ref it)) (fun r s1 => ∃ u, r = some u ∧ wpAny (model P w) X.A (letOwnedTupleGo tg (.ref it) u) (fun _ s2 => ∃ x H', Inv X pins σ H' s2 ∧ RelV x u ∧ J.yld i H x H' ∧ tn (i + 1) s2.heap ∧ ∀ b ∈ fp, H' b = none) E s1) E s
  last : ∀ X : Cx, X.prog = P → X.w = w → X.K = K → ∀ (i : Nat) (pins : List (Addr × Obj)) (s : Shared) (σ : L2.St) (H : Hp) (E : Value → Shared → Prop), HotH X.A H → Inv X pins σ H s → (∀ b ∈ fp, FpOk X pins H b) → tn i s.heap → J.stop i H →
    wpAny (model P w) X.A (pyNext (.ref it)) (fun r s1 => r = none ∧ Inv X pins σ H s1) E s
  self : ∀ (A : Around) (i : Nat) (s : Shared) (Q : Value → Shared → Prop) (E : Value → Shared → Prop), tn i s.heap → Q (.ref it) s → wpAny (model P w) A (pyIter (.ref it)) Q E s
theorem turn_listO {P : Program} {w : World} {K : PySem.W.Frag} {tg : Expr} (a it : Addr) : TurnO P w K tg (Itl K a) [it] it (fun i h => h.IsListIter it a i) where
  obj := (turn_list (P := P) (w := w) (K := K) (tg := tg) a it).obj
  keep := (turn_list (P := P) (w := w) (K := K) (tg := tg) a it).keep
  next := by
    rintro X rfl rfl rfl i pins s σ H E I out st ⟨xs, x, sq, ex⟩
    obtain ⟨its, vals, pl, _⟩ := I.list sq
    obtain ⟨u, eu, ru⟩ := vals.get ex
    obtain ⟨g0, g1, g2, g3, g4, g5⟩ := out it (by simp)
    refine wpAny_pyNext_list_item st pl.isList (x := u) (by simpa using eu) fun h' st' sb => ?_
    have I' : Inv X pins σ H { s with heap := h' } := I.turned (t' := s.toks) (fun b o hb e => (sb.2 b hb).trans e) g0 g1 g3 g4 g5
    have cp := st'
    obtain ⟨o, eo, co, dato⟩ := cp
    exact ⟨u, rfl, go_of (s := { s with heap := h' }) eo co dato (by decide) ⟨x, H, I', ru, ⟨rfl, fun ys hy => I.list_inj hy sq ▸ ex⟩, st', fun b hb => (out b hb).1⟩⟩
  last := by
    rintro X rfl rfl rfl i pins s σ H E hot I out st ⟨xs, sq, le⟩
    obtain ⟨its, vals, pl, _⟩ := I.list sq
    obtain ⟨g0, g1, g2, g3, g4, g5⟩ := out it (by simp)
    obtain ⟨ah, at_⟩ := hot.at I
    have len := vals.length
    exact HotX.list_end_hot at_ st pl.isList (by simp; omega) fun h' ext => ⟨rfl, I.turned (t' := s.toks) (fun b o hb e => ext b o hb e) g0 g1 g3 g4 g5⟩
  self := fun _ _ _ _ _ st h => wpAny_pyIter_listiter st h
def PIEO (X : Cx) (pins : List (Addr × Obj)) (σ : L2.St) (tg : Expr) (R : It → Hp → Prop) (v : Value) (s : Shared) : Prop :=
  ∃ (it : Addr) (fp : List Addr) (tn : Nat → Heap → Prop) (J : It) (H : Hp), v = .ref it ∧ Inv X pins σ H s ∧ TurnO X.prog X.w X.K tg J fp it tn ∧ tn 0 s.heap ∧ (∀ b ∈ fp, FpOk X pins H b) ∧ R J H
structure PIO (X : Cx) (tg iter : Expr) (ti : TI) : Prop where
  run : ∀ (pins : List (Addr × Obj)) (s : Shared) (σ : L2.St) (H : Hp) (R : It → Hp → Prop), Inv X pins σ H s → ti σ H R →
    wpAny (model X.prog X.w) X.A (eval iter X.env) (fun v s1 => wpAny (model X.prog X.w) X.A (pyIter v) (PIEO X pins σ tg R) X.xe s1) X.xe s
def iLst (K : PySem.W.Frag) (tl : TE) : TI := fun σ H R => tl σ H fun x H1 => ∃ a xs, x = .ref a ∧ SqL K H1 a xs ∧ R (Itl K a) H1
theorem pi_lstO {tg l : Expr} {tl : TE} (hl : PE X l tl) : PIO X tg l (iLst X.K tl) := by
  constructor
  intro pins s σ H R I h
  refine thn (hl.run pins s σ H _ I h) ?_
  rintro v s1 ⟨x, H1, I1, r1, a, xs, rfl, sq, q⟩
  cases r1
  obtain ⟨its, _, pl, _⟩ := I1.list sq
  refine wpAny_pyIter_list pl.isList ?_
  refine ⟨s1.heap.objs.size, [s1.heap.objs.size], _, Itl X.K a, H1, rfl, I1.kept (t' := s1.toks) (fun _ _ z => Heap.get?_push_of_some _ z), turn_listO a _, ⟨_, Heap.get?_push_size _ rfl, rfl, rfl⟩, fun b hb => ?_, q⟩
  obtain rfl := List.mem_singleton.mp hb
  exact I1.fpOk (Nat.le_refl _) (I1.hok.fresh (Nat.le_refl s1.heap.objs.size))
end
/-- the reading of such a comprehension; L the new list -/
def tLcO (A : Around) (ti : TI) (g : TG) (tc : TT) (ty : TE) (vs : List Nat) : TE := fun σ H Q => ti σ H fun J G => ∀ L, G L = none → ∃ P : Nat → Nat → Hp → Prop, (∃ m, P 0 m (upd G L (.lst []))) ∧ ∀ i m G, P i m G →
  (J.stop i G ∧ HotH A G ∧ Q (.ref L) G) ∨ (J.go i G ∧ ∃ Z : Hp → Prop, (∀ G', Z G' → ∃ m', m' < m ∧ P (i + 1) m' G') ∧ ∀ x G', J.yld i G x G' → g x (wipe σ vs) G' fun τ G2 => wipe τ vs = wipe σ vs ∧ tc τ G2 fun b G3 =>
    if b = true then ty τ G3 fun y G4 => ∃ acc, G4 L = some (.lst acc) ∧ acc.length < sizeLine ∧ Z (upd G4 L (.lst (acc ++ [y]))) else Z G3)
section
variable {X : Cx} {elt tg iter : Expr} {ifs : List Expr} {scope : Scope} {own : List (PySem.Str × Nat)} {pos : Pos} {ti : TI} {g : TG} {tc : TT} {ty : TE}
theorem lcO_core {pins : List (Addr × Obj)} {s : Shared} {σ : L2.St} {H : Hp} {Q : VK} {fpos : Pos} {use : Option (Value → Sem Unit)} {R : Value → Shared → Prop} (nd : X.N.Nodup) (inv : Inv X pins σ H s) (it_ : PIO X tg iter ti) (blk : BlkOk X.N X.env.scope scope own)
    (tg_ : ∀ (s : Shared) (H : Hp) (C : Addr) (cl : List (PySem.Str × Addr)) (fp : List Addr), PG (X.blk s H scope (compEnvC scope cl C X.env) fp) tg g)
    (tst : ∀ (s : Shared) (H : Hp) (C : Addr) (cl : List (PySem.Str × Addr)) (fp : List Addr), PTs (X.blk s H scope (compEnvC scope cl C X.env) fp) ifs tc)
    (val : ∀ (s : Shared) (H : Hp) (C : Addr) (cl : List (PySem.Str × Addr)) (fp : List Addr), PE (X.blk s H scope (compEnvC scope cl C X.env) fp) elt ty)
    (fold : ∀ x, foldedSetIterable iter X.env x = pure x) (start : tLcO X.A ti g tc ty (own.map (·.2)) σ H Q)
    (out : ∀ L C s' m H', Inv X pins σ H' s' → Q (.ref L) H' → s'.heap.Ns C m → FpOk X pins H' C → compPost (model X.prog X.w) X.A X.xe use R (.ref L) C (.ok .next) s') :
    wpAny (model X.prog X.w) X.A (comprehension (.ListComp elt [⟨tg, iter, ifs, 0⟩] scope pos) scope X.env fpos (newList []) false (eval iter X.env) use) R X.xe s := by
  have cellsThere : ∀ y ∈ scope.names, y.2 = .free → ∃ c, X.env.cells.lookup y.1 = some c := by
    intro y hy e
    exact (blk.free y hy e).elim (fun k => inv.ok.has _ (.inl k)) fun k => inv.ok.has _ (.inr k)
  refine wpAny_comprehension_free (use := use) rfl fold (closure_ok cellsThere) blk.kind (fun y hy e => by rw [blk.uniq y hy, e]) (thn (it_.run pins s σ H _ inv start) fun xv sA hA => thn hA fun itv sB hB => ?_)
  obtain ⟨walk, fp, tn, J, G, rfl, invB, turns, stB, okB, rest⟩ := hB
  refine wpAny_newObj_type (newEnv_comp ?_) (Nat.zero_le sizeLine)
  have fresh : G sB.heap.objs.size = none := invB.hok.fresh (Nat.le_refl _)
  obtain ⟨P, ⟨m0, p0⟩, step⟩ := rest sB.heap.objs.size fresh
  have invC : Inv X pins σ (upd G sB.heap.objs.size (.lst [])) { sB with heap := sB.heap.push { cls := .type "list", data := .seq ([] : List Value).toArray } } :=
    invB.laid (t' := sB.toks) (fun b o e => Heap.get?_push_of_some _ e) (Nat.le_refl _) ⟨Nat.zero_le _, [], 0, .nil, Heap.get?_push_size _ rfl⟩
  generalize eA : sB.heap.objs.size = A at fresh p0 step invC ⊢
  generalize eC : ({ sB with heap := sB.heap.push { cls := .type "list", data := .seq ([] : List Value).toArray } } : Shared) = sC at invC
  have hpC : sC.heap = sB.heap.push { cls := .type "list", data := .seq ([] : List Value).toArray } := by rw [← eC]
  generalize eG : upd G A (.lst []) = GC at invC p0
  have okC : ∀ b ∈ fp, FpOk X pins GC b ∧ b < sC.heap.objs.size := by
    intro b hb
    obtain ⟨o, ho, _⟩ := turns.obj _ _ stB b hb
    have lt : b < sB.heap.objs.size := Heap.lt_size ho
    refine ⟨⟨?_, (okB b hb).2⟩, ?_⟩
    · rw [← eG, upd_ne (Nat.ne_of_lt (eA ▸ lt))]
      exact (okB b hb).1
    · rw [hpC, Heap.size_push]; exact Nat.lt_succ_of_lt lt
  have stC : tn 0 sC.heap := turns.keep _ _ _ stB fun b _ o e => by rw [hpC]; exact Heap.get?_push_of_some _ e
  have invD := block_start invC blk nd okC
  have dTg := tg_ sC GC sC.heap.objs.size (cellsFrom (sC.heap.objs.size + 1) scope.names (cloFrom X.env.cells scope.names [])) fp
  have dTst := tst sC GC sC.heap.objs.size (cellsFrom (sC.heap.objs.size + 1) scope.names (cloFrom X.env.cells scope.names [])) fp
  have dVal := val sC GC sC.heap.objs.size (cellsFrom (sC.heap.objs.size + 1) scope.names (cloFrom X.env.cells scope.names [])) fp
  have goal : codeAny (model X.prog X.w) X.A (.compStart (.ListComp elt [⟨tg, iter, ifs, 0⟩] scope pos) 0 (.ref walk) (.ref A) (compEnvC scope (cellsFrom (sC.heap.objs.size + 1) scope.names (cloFrom X.env.cells scope.names [])) sC.heap.objs.size X.env))
      (compPost (model X.prog X.w) X.A X.xe use R (.ref A) sC.heap.objs.size) { sC with heap := pushCells (sC.heap.push { cls := .type "dict", data := .dict #[] }) scope.names } := by
    have none_ : ∀ b ∈ fp, GC b = none := fun b hb => (okC b hb).1.1
    generalize eE : compEnvC scope (cellsFrom (sC.heap.objs.size + 1) scope.names (cloFrom X.env.cells scope.names [])) sC.heap.objs.size X.env = env at invD dTg dTst dVal ⊢
    have locE : env.locals = sC.heap.objs.size := by rw [← eE]; rfl
    generalize eD : ({ sC with heap := pushCells (sC.heap.push { cls := .type "dict", data := .dict #[] }) scope.names } : Shared) = sD at invD ⊢
    have stD : tn 0 sD.heap := turns.keep _ _ _ stC fun b _ o e => by rw [← eD]; exact pushCells_keeps _ _ _ _ (Heap.get?_push_of_some _ e)
    have still : ∀ {τ : L2.St} {G' : Hp} {s' : Shared}, Inv (X.blk sC GC scope env fp) [] τ G' s' → (∀ b ∈ fp, G' b = none) → ∀ b ∈ fp, FpOk (X.blk sC GC scope env fp) [] G' b := by
      intro τ G' s' inv' hn b hb
      exact ⟨hn b hb, (inv'.ok.exf b hb).1, inv'.ok.exfs b hb, .inl hb, fun x c e => (inv'.ok.exf b hb).2 x c e, fun p hp => absurd (show p ∈ ([] : List (Addr × Obj)) ++ [] from hp) (by simp)⟩
    refine codeAny_compStart_list (?loop) (turns.self X.A 0 _ _ _ stD ?loop)
    refine compLoop_any (fun n s' => ∃ i G', Inv (X.blk sC GC scope env fp) [] (wipe σ (own.map (·.2))) G' s' ∧ tn i s'.heap ∧ (∀ b ∈ fp, G' b = none) ∧ P i n G') ?_ m0 ⟨0, GC, invD, stD, none_, p0⟩
    rintro n s5 ⟨i, G5, inv5, st5, none5, p5⟩
    rcases step i n G5 p5 with ⟨stop, hot, qq⟩ | ⟨go, Z, hZ, turn⟩
    · refine thnF (turns.last (X.blk sC GC scope env fp) rfl rfl rfl i [] s5 _ G5 (fun _ _ => False) hot inv5 (still inv5 none5) st5 stop) ?_
      rintro r s6 ⟨rfl, inv6⟩
      have invO : Inv X pins σ G5 s6 := invC.call' (ch := fp) inv6.os inv6.base inv6.hok inv6.bare fun b hb => ⟨(okC b hb).1.2.2.2.1, (okC b hb).1.2.1, (okC b hb).1.2.2.2.2.1, (okC b hb).1.2.2.2.2.2⟩
      have away : G5 sC.heap.objs.size = none := by
        have z : G5 env.locals = none := inv6.free
        rwa [locE] at z
      obtain ⟨mm, hns, _⟩ := inv6.loc
      have hns : s6.heap.Ns env.locals mm := hns
      rw [locE] at hns
      exact out A sC.heap.objs.size s6 mm G5 invO qq hns (invC.fpOk (Nat.le_refl _) away)
    · refine thnF (turns.next (X.blk sC GC scope env fp) rfl rfl rfl i [] s5 _ G5 (fun _ _ => False) inv5 (still inv5 none5) st5 go) ?_
      rintro r s6 ⟨u, rfl, h6⟩
      refine thnF h6 ?_
      rintro _ s7 ⟨x, G7, inv7, r7, y7, st7, none7⟩
      have pinned := inv7.pinned (still inv7 none7) (turns.obj _ _ st7)
      refine thnF (dTg.run _ s7 _ G7 x u _ pinned r7 (turn x G7 y7)) ?_
      rintro _ s8 ⟨τ8, G8, inv8, hw8, q8⟩
      refine thnF (dTst.run _ s8 τ8 G8 _ inv8 q8) ?_
      rintro b s9 ⟨G9, inv9, q9⟩
      have close : ∀ {s' : Shared} {G' : Hp}, Inv (X.blk sC GC scope env fp) ([] ++ pinsAt fp s7.heap) τ8 G' s' → Z G' → ∃ m, m < n ∧ ∃ i G', Inv (X.blk sC GC scope env fp) [] (wipe σ (own.map (·.2))) G' s' ∧ tn i s'.heap ∧ (∀ b ∈ fp, G' b = none) ∧ P i m G' := by
        intro s' G' inv' z
        obtain ⟨m', lt, p'⟩ := hZ G' z
        have at_ : ∀ b ∈ fp, ∀ o, s7.heap.get? b = some o → s'.heap.get? b = some o ∧ G' b = none := fun b hb o e =>
          ⟨(inv'.pin (b, o) (List.mem_append_right _ (List.mem_append_right _ (mem_pinsAt hb e)))).1, (inv'.pin (b, o) (List.mem_append_right _ (List.mem_append_right _ (mem_pinsAt hb e)))).2.1⟩
        refine ⟨m', lt, i + 1, G', (inv'.unpinned (pins := [])).weak (by rw [← hw8, wipe_length]) (fun j v e => (wipe_some (hw8 ▸ e)).1), turns.keep _ _ _ st7 fun b hb o e => (at_ b hb o e).1, fun b hb => ?_, p'⟩
        obtain ⟨o, e, _⟩ := turns.obj _ _ st7 b hb
        exact (at_ b hb o e).2
      cases b with
      | false => exact close inv9 (by simpa using q9)
      | true =>
        simp only [if_true] at q9 ⊢
        refine thnF (dVal.run _ s9 τ8 G9 _ inv9 q9) ?_
        rintro z s10 ⟨yv, G10, inv10, r10, acc, hA10, room, nx⟩
        exact app_ok (X := X.blk sC GC scope env fp) inv10 hA10 room r10 fun s11 inv11 => close inv11 nx
  exact goal
/-- as a value -/
theorem pe_lcO (nd : X.N.Nodup) (it_ : PIO X tg iter ti) (blk : BlkOk X.N X.env.scope scope own)
    (tg_ : ∀ (s : Shared) (H : Hp) (C : Addr) (cl : List (PySem.Str × Addr)) (fp : List Addr), PG (X.blk s H scope (compEnvC scope cl C X.env) fp) tg g)
    (tst : ∀ (s : Shared) (H : Hp) (C : Addr) (cl : List (PySem.Str × Addr)) (fp : List Addr), PTs (X.blk s H scope (compEnvC scope cl C X.env) fp) ifs tc)
    (val : ∀ (s : Shared) (H : Hp) (C : Addr) (cl : List (PySem.Str × Addr)) (fp : List Addr), PE (X.blk s H scope (compEnvC scope cl C X.env) fp) elt ty)
    (fold : ∀ x, foldedSetIterable iter X.env x = pure x) : PE X (.ListComp elt [⟨tg, iter, ifs, 0⟩] scope pos) (tLcO X.A ti g tc ty (own.map (·.2))) := by
  constructor
  intro pins s σ H Q inv start
  rw [eval_ListComp]
  refine lcO_core nd inv it_ blk tg_ tst val fold start fun L C s' m H' inv' q ns ok => ⟨m, ns, fun h'' sb => ?_⟩
  obtain ⟨f0, f1, f2, f3, f4, f5⟩ := ok
  exact ⟨.ref L, H', inv'.turned (t' := s'.toks) (fun b o hb e => (sb.2 b hb).trans e) f0 f1 f3 f4 f5, rfl, q⟩
/-- given to a name -/
theorem ps_setLcO {i : Nat} {y : PySem.Str} {py spos : Pos} (nd : X.N.Nodup) (at_ : X.N[i]? = some y) (loc : X.env.scope.names.lookup y = some .local)
    (sw : swapsWith (.ListComp elt [⟨tg, iter, ifs, 0⟩] scope pos) (some (.Name y py)) spos.line X.env = pure true) (it_ : PIO X tg iter ti) (blk : BlkOk X.N X.env.scope scope own)
    (tg_ : ∀ (s : Shared) (H : Hp) (C : Addr) (cl : List (PySem.Str × Addr)) (fp : List Addr), PG (X.blk s H scope (compEnvC scope cl C X.env) fp) tg g)
    (tst : ∀ (s : Shared) (H : Hp) (C : Addr) (cl : List (PySem.Str × Addr)) (fp : List Addr), PTs (X.blk s H scope (compEnvC scope cl C X.env) fp) ifs tc)
    (val : ∀ (s : Shared) (H : Hp) (C : Addr) (cl : List (PySem.Str × Addr)) (fp : List Addr), PE (X.blk s H scope (compEnvC scope cl C X.env) fp) elt ty)
    (fold : ∀ x, foldedSetIterable iter X.env x = pure x) : PS X (.Assign [.Name y py] (.ListComp elt [⟨tg, iter, ifs, 0⟩] scope pos) spos) (tAsg (tLcO X.A ti g tc ty (own.map (·.2))) (gName i)) := by
  constructor
  intro pins s σ H D inv start
  rw [exec_Assign_Name_used _ _ _ _ sw]
  refine wpAny_bind (wpAny_standAt (wpAny_bind (wpAny_bind (thn (lcO_core (R := fun _ s' => SP X pins D .next s') (use := some (assign (.Name y py) X.env)) nd inv it_ blk tg_ tst val fold start fun L C s' m H' inv' q ns ok => ?_) fun _ _ z => wpAny_pure (wpAny_pure z)))))
  obtain ⟨f0, f1, f2, f3, f4, f5⟩ := ok
  show wpAny _ _ (assign (.Name y py) X.env (.ref L)) _ _ _
  refine wpAny_assign_Name (store_ok2 (v := V.ref L) inv' nd at_ (.inl loc) rfl ?_ (.inr loc))
  rintro s2 inv2 ⟨a, sb, whose⟩
  have apart : C ≠ a := whose.elim (fun z => z ▸ f1) fun z e => f4 y a z e.symm
  exact ⟨m, ns.sameBut sb apart, fun h3 sb3 => ⟨_, H', inv2.turned (t' := s2.toks) (fun b o hb e => (sb3.2 b hb).trans e) f0 f1 f3 f4 f5, q⟩⟩
end
end L2

set_option Elab.async false
set_option linter.all false
set_option maxRecDepth 100000
set_option maxHeartbeats 2000000
/-! DH2: except E as n: a suite that knows the exception, which stays handled; defs called there -/
namespace L2N
open PySem PySem.Spec PyProof.Rows L2
open DL (exh)
section
variable {X : Cx} {pins : List (Addr × Obj)} {σ : L2.St} {H : Hp} {s : Shared}
theorem _root_.L2.Inv.suiteT (I : Inv X pins σ H s) (a : Addr) : Inv (X.suite a (X.pn ++ pins)) [] σ H s :=
  ⟨I.ok.suite _ _, I.os, I.bare, I.base, I.loc, I.cell, I.free, I.freeC, fun p hp => I.pin p (by rw [List.append_nil] at hp; exact hp), I.hok, I.len⟩
theorem _root_.L2.Inv.unsuiteT {a : Addr} {more : List (Addr × Obj)} (I : Inv (X.suite a (X.pn ++ pins)) more σ H s) (ok : X.Ok) : Inv X pins σ H s :=
  ⟨ok, I.os, I.bare, I.base, I.loc, I.cell, I.free, I.freeC, fun p hp => I.pin p (List.mem_append_left _ hp), I.hok, I.len⟩
/-- what such a clause asks of the body's exception -/
def wHot (K : PySem.W.Frag) (m : Nat) (c : Value) (i : Nat) (ts : Addr → TS) (W₀ : WX) (D : Ends) : WX := fun cls d σ H =>
  ∃ b, PySem.W.exmOne K cls c = some b ∧ (b = true → ∀ (a : Addr) (oe : Obj) (fs : Array Value), H a = none → σ.length = m → Zn cls d oe → oe.data = .fields fs → fs[2]? = some .none →
    ts a { D with nx := fun σ' H' => D.nx (σ'.set i none) H', bk := fun σ' H' => D.bk (σ'.set i none) H', ct := fun σ' H' => D.ct (σ'.set i none) H' } (σ.set i (some (.ref a))) (upd H a (exh oe))) ∧ (b = false → W₀ cls d σ H)
section
variable {x n : Str} {c : Value} {i : Nat} {body suite : List Stmt} {np pos pos' : Pos} {tb : WX → TS} {ts : Addr → TS} {W₀ : WX}
theorem ps_try_hot (hs : X.stack = X.env :: X.outer) (hf : X.env.frame = some X.env.locals) (hN : X.N.Nodup) (hi : X.N[i]? = some n) (hln : X.env.kindOf n = some .local) (hc : Names X x c) (tk : Takes X W₀) (hnil : suite ≠ [])
    (hb : ∀ (W : WX) (pn : List (Addr × Obj)) (xe : Value → Shared → Prop), Takes (X.tr pn xe) W → PassesOwn (model X.prog X.w) X.A X.env xe → PSs (X.tr pn xe) body (tb W))
    (hsu : ∀ (a : Addr) (pn : List (Addr × Obj)), PSs (X.suite a pn) suite (ts a)) :
    PS X (.Try body [.ExceptHandler (some (.Name x np)) (some n) suite pos'] [] [] pos) (fun D σ H => tb (wHot X.K X.N.length c i ts W₀ D) D σ H) := by
  constructor
  intro pins s σ H D I h
  have ok := I.ok
  obtain ⟨b₀, more, rfl⟩ : ∃ b₀ more, suite = b₀ :: more := by
    cases suite with
    | nil => exact absurd rfl hnil
    | cons b m => exact ⟨b, m, rfl⟩
  have frm : X.A.frames = some (X.env :: X.outer) := hs ▸ ok.frames
  have body_ := (hb (wHot X.K X.N.length c i ts W₀ D) (X.pn ++ pins) (fun e s₁ => wpAny (model X.prog X.w) X.A (noteFrame e X.env) (fun _ s₂ => wpAny (model X.prog X.w) X.A (setFlight e none)
    (fun _ s₃ => wpAny (model X.prog X.w) X.A (handleBy e X.env [.ExceptHandler (some (.Name x np)) (some n) (b₀ :: more) pos']) (SP X pins D) X.xe s₃) X.xe s₂) X.xe s₁) ?grab PassesOwn.looking).run [] s σ H D (I.toTry _) h
  case grab =>
    rintro u s' ⟨a, B, s0, ps, σ1, H1, cls, d, rfl, J0, inB, up0, sky, na, eos, eag, b, hb1, yes, no⟩
    have J : Inv X pins σ1 H1 s0 := J0.ofTry ok
    show wpAny (model X.prog X.w) X.A (noteFrame (.ref a) X.env) _ _ _
    refine Sky.land Zn.steady frm hf (by rw [← hs]; exact sky) fun g1 fly1 up1 => ?_
    have J1 : Inv X pins σ1 H1 { s' with heap := g1 } := J.landed inB fly1.1 (up0.trans up1) eos eag
    obtain ⟨o1, v1, ho1, z1, d1⟩ := fly1.there
    have off : a ∉ frs (X.env :: X.outer) := fun hm => by
      obtain ⟨_, o', e', nf⟩ := fly1.2.2.1.mem hm
      rw [ho1] at e'
      obtain rfl := Option.some.inj e'
      exact nf _ d1
    have nL : a ≠ X.env.locals := fun z => off (List.mem_filterMap.mpr ⟨X.env, List.mem_cons_self, by rw [hf, z]⟩)
    have nF : a ∉ X.fs := fun hm => by
      obtain ⟨e, he, q⟩ := List.mem_filterMap.mp hm
      exact off (List.mem_filterMap.mpr ⟨e, List.mem_cons_of_mem _ he, q⟩)
    have nB : B.get? a = none := fly1.2.1
    -- a is no object of the state without it
    have n0 : ∀ o, s0.heap.get? a ≠ some o := fun o e => by
      have := inB a o e (by rw [hs]; exact off)
      rw [nB] at this; cases this
    have S1 := J1.suite ho1 d1 na nL nF
    refine wpAny_handleBy_cons (codeAny_handlers_test ?_) fun q => nomatch q
    have kind := PySem.W.exm_one (M := model X.prog X.w) J1.kIn (fun A Q E t k q => wpAny_typeOf_ref (k _ _ ho1) (by rw [z1.1]; exact q)) hb1
    have known : ∀ {Q E : Value → Shared → Prop}, Q c { s' with heap := g1 } → wpAny (model X.prog X.w) (X.A.mark (some (.ref a))) (eval (.Name x np) X.env) Q E { s' with heap := g1 } := fun {Q E} q => by
      rcases hc with ⟨hg, hdbg, hm | ⟨hm, hv, hnn⟩⟩
      · exact ld_glob (X := X.suite a ((a, o1) :: (X.pn ++ pins))) S1 hg hm q hdbg
      · exact ld_blt (X := X.suite a ((a, o1) :: (X.pn ++ pins))) S1 hg hm hv q hnn hdbg
    refine known (kind.here ?_)
    cases b with
    | false =>
      show wpAny _ X.A (handleBy (.ref a) X.env []) _ _ _
      refine wpAny_handleBy_nil ?_
      obtain ⟨_, _, _, oe, vs, T, oT, _, he, hz, hd, h1, hr⟩ := id fly1
      unfold PySem.passOn
      refine wpAny_bind (wpAny_field he hd h1 ?_)
      rw [if_neg (show ¬ ((Value.ref T == Value.none) = true) from by simp)]
      have out : wpAny (model X.prog X.w) X.A (setFlight (.ref a) X.env.frame) (fun _ t => wpAny (model X.prog X.w) X.A (throw (.ref a) : Sem Flow) (SP X pins D) X.xe t) X.xe { s' with heap := g1 } := by
        rw [hf]
        exact HandSPX.setFlight_upZ fly1 fun g2 held up2 => wpAny_throw (tk _ _ ⟨a, B, s0, pins, σ1, H1, cls, d, rfl, J, inB, (up0.trans up1).trans up2, .inr (.inr (by rw [hs]; exact held)), na, eos, eag, no rfl⟩)
      first
        | exact wpAny_bind (wpAny_pure (wpAny_bind out))
        | exact wpAny_bind out
    | true =>
      refine codeAny_handlers_suite_as (HandSPX.lands_againZ fly1 fun g2 fly2 up2 => ?_)
      have J2 : Inv X pins σ1 H1 { s' with heap := g2 } := J.landed inB fly2.1 ((up0.trans up1).trans up2) eos eag
      obtain ⟨o2, v2, ho2, z2, d2⟩ := fly2.there
      have nC : ∀ v, o2.data ≠ .cell v := fun v z => by rw [d2] at z; cases z
      have T2 := (J2.track ho2 na nL nC (fun p hp z => n0 p.2 (by rw [← z]; exact (J.pin p hp).1)) (fun o e n => by
        by_cases hx : a ∈ X.ex
        · exact hx
        · exact absurd (J.base.keep a o e n nF hx) (n0 o))).suiteT a
      refine store_ok (X := X.suite a (X.pn ++ pins)) (v := .ref a) T2 hN hi (.inl hln) rfl (fun s3 S3 => ?_) (.inr hln)
      refine wpAny_mono ((hsu a (X.pn ++ pins)).run [] s3 _ _ _ S3 (yes rfl a o2 v2 na J.len z2 d2 (z2.2.2 v2 d2))) (fun f s4 post => ?_) fun _ _ z => z.elim
      match f, post with
      | .brk, ⟨σ4, H4, S4, q4⟩ => exact gone_ok (S4.unsuiteT ok) hN hi hln fun s5 J5 => ⟨_, _, J5, q4⟩
      | .cont, ⟨σ4, H4, S4, q4⟩ => exact gone_ok (S4.unsuiteT ok) hN hi hln fun s5 J5 => ⟨_, _, J5, q4⟩
      | .ret u, ⟨v4, σ4, H4, S4, r4, q4⟩ => exact gone_ok (S4.unsuiteT ok) hN hi hln fun s5 J5 => ⟨_, _, _, J5, r4, q4⟩
      | .next, ⟨σ4, H4, S4, q4⟩ => exact gone_ok (S4.unsuiteT ok) hN hi hln fun s5 J5 => ⟨_, _, J5, q4⟩
  refine wpAny_Try_except (wpAny_mono body_ (fun f s1 post => ?_) fun e s1 he => he)
  match f, post with
  | .next, ⟨σ', H', J', q⟩ => exact wpAny_execs_nil ⟨σ', H', J'.ofTry ok, q⟩
  | .brk, ⟨σ', H', J', q⟩ => exact ⟨σ', H', J'.ofTry ok, q⟩
  | .cont, ⟨σ', H', J', q⟩ => exact ⟨σ', H', J'.ofTry ok, q⟩
  | .ret u, ⟨v, σ', H', J', r, q⟩ => exact ⟨v, σ', H', J'.ofTry ok, r, q⟩
end
end
end L2N
namespace L2H
theorem RoomH.units {k : Nat} {A : PySem.Around} (r : RoomH k A) : A.units + 64 < PySem.cLine := by have := r.un; omega
end L2H
namespace DL
open PySem L2 PySem.Spec PyProof.Rows
/-- the handled exception is frozen since the origin -/
def HotO (O : Org) (A : Around) : Prop := ∃ (a : Addr) (oe : Obj) (fs : Array Value), A.handled = some (.ref a) ∧ O.F.F a ∧ O.H a = some (exh oe) ∧ oe.data = .fields fs ∧ fs[2]? = some .none
theorem HotO.here {O : Org} {A : Around} {K : PySem.W.Frag} {F : Zo} {H : Hp} {μ : Mu} (h : HotO O A) (hd : Hd K O F H μ) : HotH A H :=
  let ⟨a, oe, fs, h1, h2, h3, h4⟩ := h
  ⟨a, oe, fs, h1, (hd.org.hf h2).trans h3, h4⟩
theorem HotO.mv {O : Org} {A : Around} {K : PySem.W.Frag} {F : Zo} {H : Hp} {μ : Mu} (h : HotO O A) (hd : Hd K O F H μ) : HotO ⟨F, H⟩ A :=
  let ⟨a, oe, fs, h1, h2, h3, h4⟩ := h
  ⟨a, oe, fs, h1, hd.org.f a h2, (hd.org.hf h2).trans h3, h4⟩
/-- (a, b, ..) = a tuple -/
def dgTupO (n : Nat) (t : DTGs) : DTG := fun d δ μ q => match d with
  | .tup l => l.length = n ∧ t l δ μ q
  | _ => False
section
variable {O : Org} {X : Cx} {pos : Pos} {es : List Expr} {us : List Nat} {u : DTGs}
theorem dg_tupO {n : Nat} {k0 : Nat} (hot : HotO O X.A) (h : DGsw O X es us u) (hn : (assignEach es X.env).length = n := by rfl) (hst : (assignEach es X.env).findIdx? (·.1) = none := by rfl) : DGw O X (.Tuple es k0 pos) us (dgTupO n u) :=
  pg_weak (pg_tupH h hn hst) fun v σ H Q ⟨F, d, δ, μ, q, hd, rs, r, t, k⟩ => by
    unfold dgTupO at t
    split at t
    · rename_i l
      obtain ⟨a, vs, rfl, h1, h2⟩ := r
      exact ⟨hot.here hd, a, vs, rfl, h1.sq, by rw [← h2.length]; exact t.1, F, l, δ, μ, q, hd, rs, h2, t.2, k⟩
    · exact t.elim
abbrev DIO (O : Org) (X : Cx) (tg iter : Expr) (t : DTI) : Prop := PIO X tg iter (LI X.K O t)
def diLst (te : DTE) : DTI := fun δ μ q => te δ μ fun d μ1 => match d with
  | .lst l => q l (fun _ => True) μ1
  | .rol l => q l (fun _ => True) μ1
  | _ => False
theorem pio_weak {tg e : Expr} {t t' : TI} (h : PIO X tg e t) (w : ∀ σ H R, t' σ H R → t σ H R) : PIO X tg e t' := ⟨fun pins s σ H R I q => h.run pins s σ H R I (w σ H R q)⟩
theorem di_lstO {tg e : Expr} {te : DTE} (he : DE O X e te) : DIO O X tg e (diLst te) := pio_weak (pi_lstO he) fun σ H R ⟨F, δ, μ, q, hd, rs, t, k⟩ =>
  ⟨F, δ, μ, _, hd, rs, t, fun F1 H1 μ1 d v e1 hd1 r1 t1 => by
    cases d <;> first | exact False.elim t1 | skip
    · obtain ⟨a, vs, rfl, h1, h2⟩ := r1
      exact ⟨a, vs, rfl, SqL.of h1.2, k F1 H1 μ1 _ _ _ e1 hd1 (itok_list h2 fun F2 H2 μ2 e2 hd2 k2 => .inl (SqL.of ((e2.hf h1.1).trans h1.2))) t1⟩
    · obtain ⟨a, vs, rfl, h1, h2⟩ := r1
      exact ⟨a, vs, rfl, h1.sq, k F1 H1 μ1 _ _ _ e1 hd1 (itok_list h2 fun F2 H2 μ2 e2 hd2 k2 => .inl (h1.ext e2).sq) t1⟩⟩
end
section
variable {O : Org} {X : Cx}
theorem llcO {K : PySem.W.Frag} {A₀ : Around} (hot : HotO O A₀) {ti : DTI} {g : DTG} {tt : DTT} {te : DTE} {ws vs : List Nat} (hw : ∀ i ∈ ws, i ∈ vs) : ∀ σ H Q, LE K O (dLc ti g tt te vs) σ H Q → tLcO A₀ (LI K O ti) (LGw K O ws g) (LT K O tt) (LE K O te) vs σ H Q := fun σ H Q ⟨F, δ, μ, q, hd, rs, t, k⟩ =>
  ⟨F, δ, μ, _, hd, rs, t, fun F1 H1 μ1 items keep J e1 hd1 ok ⟨P, p0, pk, step, fin⟩ => by
    intro A hA
    -- the new list stays out of reach: what is said holds of the heap with it
    have nG : ¬ F1.G A := hd1.nf hA
    refine ⟨fun i m H' => m = items.length - i ∧ i ≤ items.length ∧ ∃ F2 l us μ2, Ext F1 H1 F2 H' ∧ Hd K O F2 H' μ2 ∧ ¬ F2.G A ∧ μ2 A = none ∧ H' A = some (.lst us) ∧ RepL K F2 H' l us ∧ P i l μ2, ⟨_, rfl, Nat.zero_le _, F1, [], [], μ1, ext_new hd1 hA, ⟨hd1.org.trans (ext_new hd1 hA), fun a f => ?_, fun a m e => ?_⟩, nG, hd1.free hA, upd_same, RepL.nil, p0⟩, ?_⟩
    · have z : a ≠ A := fun z => nG (z ▸ f)
      rw [upd_ne z]; exact hd1.fr a f
    · have z : a ≠ A := fun z => by rw [z, hd1.free hA] at e; cases e
      exact ⟨(hd1.own a m e).1, (hd1.own a m e).2.ext (ext_new hd1 hA) (upd_ne z)⟩
    rintro i m H2 ⟨rfl, hi, F2, l, us, μ2, e2, hd2, nA, mA, hA2, rl, p2⟩
    obtain ⟨kk, hsz⟩ := pk i l μ2 hi p2
    by_cases hlt : i < items.length
    · refine .inr ⟨ok.go i F2 H2 μ2 e2 hd2 kk hlt, fun H' => ∃ F2 l us μ2, Ext F1 H1 F2 H' ∧ Hd K O F2 H' μ2 ∧ ¬ F2.G A ∧ μ2 A = none ∧ H' A = some (.lst us) ∧ RepL K F2 H' l us ∧ P (i + 1) l μ2, fun H' q => ⟨_, by omega, rfl, hlt, q⟩, fun x H3 hy => ?_⟩
      have ep : Ext F2 H2 (addG F2 A) H2 := ⟨fun _ f => f, fun _ f => .inl f, fun _ _ => rfl, fun _ _ f => f⟩
      have hdp : Hd K O (addG F2 A) H2 μ2 := by
        refine ⟨hd2.org.trans ep, fun a f => f.elim (hd2.fr a) fun z => by rw [z, hA2]; simp, fun a m e => ?_⟩
        have z : a ≠ A := fun z => by rw [z, mA] at e; cases e
        exact ⟨fun f => f.elim (hd2.own a m e).1 z, (hd2.own a m e).2.ext ep rfl⟩
      obtain ⟨F3, d, e3, hd3, hd', r3⟩ := ok.yld i (addG F2 A) H2 μ2 x H3 (e2.trans ep) hdp kk hlt hy
      have e03 := (e1.trans (e2.trans ep)).trans e3
      refine ⟨F3, d, wipeD δ vs, μ2, _, hd3, (rs.wipe vs).ext e03, r3, step i d l μ2 hd' p2, fun F4 H4 μ4 δ4 σ4 e4 hd4 rs4 a4 t4 => ⟨(wipe_agr (a4.mono hw)).trans (wipe_wipe σ vs), F4, δ4, μ4, _, hd4, rs4, t4, fun F5 H5 μ5 b e5 hd5 t5 => ?_⟩⟩
      have e25 : Ext (addG F2 A) H2 F5 H5 := (e3.trans e4).trans e5
      -- what a turn leaves, whether or not something was appended
      have close : ∀ F6 H6 μ6, Ext (addG F2 A) H2 F6 H6 → Hd K O F6 H6 μ6 → ∀ (l' : List D) (us' : List V), RepL K F6 H6 l' us' → P (i + 1) l' μ6 →
          ∃ F7 l7 us7 μ7, Ext F1 H1 F7 (upd H6 A (.lst us')) ∧ Hd K O F7 (upd H6 A (.lst us')) μ7 ∧ ¬ F7.G A ∧ μ7 A = none ∧ (upd H6 A (.lst us')) A = some (.lst us7) ∧ RepL K F7 (upd H6 A (.lst us')) l7 us7 ∧ P (i + 1) l7 μ7 := by
        intro F6 H6 μ6 e6 hd6 l' us' r' p'
        have nf : ¬ F6.F A := fun f => nA (F2.sub A (e6.o A (.inr rfl) f))
        have gA : F6.G A := e6.g A (.inr rfl)
        have mA6 : μ6 A = none := by
          cases e : μ6 A with
          | none => rfl
          | some m => exact absurd gA (hd6.own A m e).1
        have le : Le F6 H6 (remG F6 A nf) (upd H6 A (.lst us')) := ⟨fun _ f => f, fun {a} f => upd_ne fun z => nf (z ▸ f)⟩
        have ex1 : Ext F1 H1 (remG F6 A nf) (upd H6 A (.lst us')) := ⟨fun a f => e6.f a (e2.f a f), fun a f => ⟨e6.g a (.inl (e2.g a f)), fun z => nG (z ▸ f)⟩, fun a f => by
          have z : a ≠ A := fun z => nG (z ▸ f)
          rw [upd_ne z, e6.h a (.inl (e2.g a f)), e2.h a f], fun a f k => e2.o a f (e6.o a (.inl (e2.g a f)) k)⟩
        refine ⟨remG F6 A nf, l', us', μ6, ex1, ⟨hd1.org.trans ex1, fun a f => ?_, fun a m e => ?_⟩, fun f => f.2 rfl, mA6, upd_same, r'.mv le, p'⟩
        · rw [upd_ne f.2]; exact hd6.fr a f.1
        · have z : a ≠ A := fun z => by rw [z, mA6] at e; cases e
          exact ⟨fun f => (hd6.own a m e).1 f.1, (hd6.own a m e).2.mv le (upd_ne z)⟩
      cases b with
      | true =>
        rw [if_pos rfl] at t5
        dsimp only
        rw [if_pos rfl]
        refine ⟨F5, δ4, μ5, _, hd5, rs4.ext e5, t5, fun F6 H6 μ6 y v e6 hd6 r6 t6 => ?_⟩
        have e26 := e25.trans e6
        refine ⟨us, (e26.h A (.inr rfl)).trans hA2, by rw [← rl.length]; exact hsz, ?_⟩
        exact close F6 H6 μ6 e26 hd6 (l ++ [y]) (us ++ [v]) (((rl.ext ep).ext e26).append (.cons r6 RepL.nil)) t6
      | false =>
        rw [if_neg Bool.false_ne_true] at t5
        dsimp only
        rw [if_neg Bool.false_ne_true]
        have c := close F5 H5 μ5 e25 hd5 l us ((rl.ext ep).ext e25) t5
        have eu : upd H5 A (.lst us) = H5 := by
          funext b
          unfold upd
          split
          · rename_i e; rw [e, (e25.h A (.inr rfl)).trans hA2]
          · rfl
        rw [eu] at c
        exact c
    · have e : i = items.length := by omega
      subst e
      refine .inl ⟨ok.stop _ F2 H2 μ2 e2 hd2 kk (Nat.le_refl _), hot.here hd2, ?_⟩
      have ex : Ext F2 H2 (addF F2 A) H2 := ⟨fun _ f => .inl f, fun _ f => .inl f, fun _ _ => rfl, fun a f z => z.elim id fun z => absurd (z ▸ f) nA⟩
      refine k (addF F2 A) H2 μ2 (.lst l) (.ref A) ((e1.trans e2).trans ex) ⟨hd2.org.trans ex, fun a f => ?_, fun a m e => ?_⟩ ⟨A, us, rfl, ⟨.inr rfl, hA2⟩, rl.ext ex⟩ (fin l μ2 p2)
      · rcases f with f | f
        · exact hd2.fr a f
        · rw [f, hA2]; simp
      · have z : a ≠ A := fun z => by rw [z, mA] at e; cases e
        exact ⟨fun f => f.elim (hd2.own a m e).1 z, (hd2.own a m e).2.ext ex rfl⟩⟩
theorem de_lcO {elt tg iter : Expr} {ifs : List Expr} {scope : Scope} {own : List (Str × Nat)} {pos : Pos} {ti : DTI} {g : DTG} {tt : DTT} {te : DTE} {ws : List Nat} (hot : HotO O X.A) (hN : X.N.Nodup) (hi : DIO O X tg iter ti) (ok : BlkOk X.N X.env.scope scope own) (hw : ∀ i ∈ ws, i ∈ own.map (·.2))
    (hg : ∀ (s : Shared) (H : Hp) (C : Addr) (cl : List (Str × Addr)) (fp : List Addr), DGw O (X.blk s H scope (compEnvC scope cl C X.env) fp) tg ws g) (ht : ∀ (s : Shared) (H : Hp) (C : Addr) (cl : List (Str × Addr)) (fp : List Addr), DTs O (X.blk s H scope (compEnvC scope cl C X.env) fp) ifs tt)
    (he : ∀ (s : Shared) (H : Hp) (C : Addr) (cl : List (Str × Addr)) (fp : List Addr), DE O (X.blk s H scope (compEnvC scope cl C X.env) fp) elt te) (hs : ∀ x, foldedSetIterable iter X.env x = pure x := by intro _; rfl) :
    DE O X (.ListComp elt [⟨tg, iter, ifs, 0⟩] scope pos) (dLc ti g tt te (own.map (·.2))) := pe_weak (pe_lcO hN hi ok hg ht he hs) (llcO hot hw)
theorem ds_setLcO {i : Nat} {y : Str} {py : Pos} {elt tg iter : Expr} {ifs : List Expr} {scope : Scope} {own : List (Str × Nat)} {pos spos : Pos} {ti : DTI} {g : DTG} {tt : DTT} {te : DTE} {ws : List Nat} (hot : HotO O X.A) (hN : X.N.Nodup) (hy : X.N[i]? = some y) (hyl : X.env.scope.names.lookup y = some .local)
    (hsw : swapsWith (.ListComp elt [⟨tg, iter, ifs, 0⟩] scope pos) (some (.Name y py)) spos.line X.env = pure true) (hi : DIO O X tg iter ti) (ok : BlkOk X.N X.env.scope scope own) (hw : ∀ i ∈ ws, i ∈ own.map (·.2))
    (hg : ∀ (s : Shared) (H : Hp) (C : Addr) (cl : List (Str × Addr)) (fp : List Addr), DGw O (X.blk s H scope (compEnvC scope cl C X.env) fp) tg ws g) (ht : ∀ (s : Shared) (H : Hp) (C : Addr) (cl : List (Str × Addr)) (fp : List Addr), DTs O (X.blk s H scope (compEnvC scope cl C X.env) fp) ifs tt)
    (he : ∀ (s : Shared) (H : Hp) (C : Addr) (cl : List (Str × Addr)) (fp : List Addr), DE O (X.blk s H scope (compEnvC scope cl C X.env) fp) elt te) (hs : ∀ x, foldedSetIterable iter X.env x = pure x := by intro _; rfl) :
    DSt O X (.Assign [.Name y py] (.ListComp elt [⟨tg, iter, ifs, 0⟩] scope pos) spos) (dAsg (dLc ti g tt te (own.map (·.2))) (dgName i)) := ps_weak (ps_setLcO hN hy hyl hsw hi ok hg ht he hs) fun Z σ H ⟨F, δ, μ, E, hd, rs, t, L⟩ =>
  llcO hot hw σ H _ ⟨F, δ, μ, _, hd, rs, t, fun F1 H1 μ1 d v e1 hd1 r1 t1 => L.nx F1 H1 μ1 _ _ e1 hd1 ((rs.ext e1).set r1) t1⟩
end

/-! ### defs called there -/
structure FnGH (P : Program) (w : World) (K : PySem.W.Frag) (mg : Str → Option Value) (base : Heap) (k : Nat) (f : Addr) (fd : FuncData) (ps : List Str) (sp : Around → Sp) : Prop where
  len : ∀ A vs H Q E, sp A vs H Q E → vs.length = ps.length
  run : ∀ (A : Around) (outer : List Env) (s : Shared) (H : Hp) (args : Args) (us : List Value) (vs : List V) (Q : VK) (E : XK), L2H.RoomH k A → A.guards = some [] → Env0 P w K mg base A outer s H →
    BindsTo s fd args (ps.zip us) → Vals vs us → sp A vs H Q E → codeAny (model P w) A (.call (.ref f) args) (CR (L2N.CX P w) outer P w H s Q E) s
abbrev cxHot (P : Program) (w : World) (K : PySem.W.Frag) (mg : Str → Option Value) (base : Heap) (N : List Str) (qual : Str) (scope : Scope) (f : Addr) (cd : Value) (A : Around) (outer : List Env) (s : Shared) (H : Hp) (E : XK) : Cx :=
  { cxOf (L2N.CX P w) P w K mg base N qual scope f cd A outer s H E with calm := false }
theorem inv_hot {P : Program} {w : World} {K : PySem.W.Frag} {mg : Str → Option Value} {base : Heap} {N ps : List Str} {qual : Str} {scope : Scope} {f : Addr} {cd : Value} {A : Around} {outer : List Env} {s s1 : Shared} {H : Hp} {E : XK} {us : List Value} {vs : List V}
    (S : FnScope N ps scope) (e0 : Env0 P w K mg base A outer s H) (hl : vs.length = ps.length) (r : Vals vs us)
    (x : InCallC s s.heap.objs.size (bindL (envOfC qual scope s.heap.objs.size f cd).kindOf (ps.zip us) fun _ => none) (cellsFrom (s.heap.objs.size + 1) scope.names []) (bindC (envOfC qual scope s.heap.objs.size f cd).kindOf (ps.zip us) fun _ => none) s1) :
    Inv (cxHot P w K mg base N qual scope f cd A outer s H E) [] (L2.start N vs) H s1 := by
  have J := inv_start (CX := L2N.CX P w) (A := { A with handled := none }) (E := E) (N := N) (f := f) (cd := cd) (qual := qual) S rfl ⟨e0.frames, e0.mod, e0.bs, e0.bsz, e0.funs, e0.frf, e0.hok, e0.bare⟩ hl r x
  exact ⟨⟨J.ok.mod, J.ok.kind, J.ok.glob, J.ok.blt, J.ok.above, J.ok.inj, J.ok.has, J.ok.cab, (fun z => absurd (show false = true from z) Bool.false_ne_true), Around.frames_deeper e0.frames, J.ok.stk, J.ok.exf, J.ok.bs, J.ok.bsz, J.ok.noex, J.ok.exfs, J.ok.funs, J.ok.frf⟩,
    J.os, J.bare, J.base, J.loc, J.cell, J.free, J.freeC, J.pin, J.hok, J.len⟩
section
variable {P : Program} {w : World} {K : PySem.W.Frag} {mg : Str → Option Value} {base : Heap}
theorem fnGH_of {x qual : Str} {st : Stmt} {f : Addr} {fd : FuncData} {N ps : List Str} {k : Nat} {sp : Around → Sp} (F : Fun K x qual st f fd) (S : FnScope N ps (defScope st)) (len : ∀ A vs H Q E, sp A vs H Q E → vs.length = ps.length)
    (body : ∀ (cdv : Value) (A : Around) (outer : List Env) (s : Shared) (H : Hp) (vs : List V) (Q : VK) (E : XK), L2H.RoomH k (A.deeper (envOfC qual (defScope st) s.heap.objs.size f cdv)) → A.guards = some [] → sp A vs H Q E →
      ∃ t, PSs (cxHot P w K mg base N qual (defScope st) f cdv A outer s H E) (defBody st) t ∧ t { nx := fun _ H' => Q .non H', rt := Q } (L2.start N vs) H) : FnGH P w K mg base (k + 1) f fd ps sp := by
  obtain ⟨oc, od, kV, doc, pm, an, cdv, ct, osl, rfl, lk, hcd⟩ := F.ex
  refine ⟨len, ?_⟩
  intro A outer s H args us vs Q E room gd e0 bnd rel hsp
  have inK : K.In s.heap := e0.mod.kin.keeps fun b o z => (e0.bs b o z).1
  have nolim : s.heap.NoLimit := e0.mod.nolimit.keeps fun b o z => (e0.bs b o z).1
  refine codeAny_call_function room.depth (inK _ _ lk) rfl S.co S.gen rfl (PySem.W.codeRec_of inK hcd) (bnd _ _ _ _ ?_)
  refine wpAny_newFunctionEnv_cells S.kind ?_ ?_
  · rintro ⟨n, v⟩ hy
    rcases S.par n (List.of_mem_zip hy).1 with q | q
    · exact .inl q
    · exact .inr ⟨q, PySem.W.cellsFrom_some _ _ _ (.inl q)⟩
  intro env he s1 inC
  subst he
  refine ⟨nolim.keeps inC.toInCall.keep, codeAny_func ?_⟩
  obtain ⟨t, der, q⟩ := body cdv A outer s H vs Q E (room.deeper _) gd hsp
  have I : Inv (cxHot P w K mg base N qual (defScope st) f cdv A outer s H E) [] (L2.start N vs) H s1 := inv_hot S e0 (len _ _ _ _ _ hsp) rel inC
  refine wpAny_mono (der.run [] s1 (L2.start N vs) H _ I q) ?_ fun _ _ z => z
  intro fl s2 sp2
  match fl, sp2 with
  | .ret u, ⟨v, σ2, H2, J, rv, q2⟩ => exact ⟨v, H2, J.os, J.bare, J.base, J.hok, rv, q2⟩
  | .next, ⟨σ2, H2, J, q2⟩ => exact ⟨V.non, H2, J.os, J.bare, J.base, J.hok, rfl, q2⟩
  | .brk, ⟨_, _, _, q2⟩ => exact q2.elim
  | .cont, ⟨_, _, _, q2⟩ => exact q2.elim
end
def LSpH (K : PySem.W.Frag) (c : DSp) : Around → Sp := fun A vs H Q E => ∃ F μ ds q e, HotO ⟨F, H⟩ A ∧ Hd K ⟨F, H⟩ F H μ ∧ RepL K F H ds vs ∧ c ds μ q e ∧ (∀ F' H' μ' d v, Hd K ⟨F, H⟩ F' H' μ' → Rep K F' H' d v → q d μ' → Q v H') ∧
  ∀ cls dd H', LX K ⟨F, H⟩ e cls dd H' → E cls dd H'
structure CtxH (O : Org) (X : Cx) (k : Nat) (e : DX) : Prop where
  room : L2H.RoomH k X.A
  gd : X.A.guards = some []
  px : Passes (L2N.CX X.prog X.w) X (LX X.K O e)
  hot : HotO O X.A
section
variable {P : Program} {w : World} {K : PySem.W.Frag} {mg : Str → Option Value} {base : Heap}
theorem fnDH_of {x qual : Str} {st : Stmt} {f : Addr} {fd : FuncData} {N ps : List Str} {k n : Nat} {c : DSp} {t : DX → DTS} (F : Fun K x qual st f fd) (S : FnScope N ps (defScope st)) (hn : N.length = n) (len : ∀ ds μ q e, c ds μ q e → ds.length = ps.length)
    (der : ∀ (cdv : Value) (A : Around) (outer : List Env) (s : Shared) (H : Hp) (E : XK) (O : Org) (e : DX), CtxH O (cxHot P w K mg base N qual (defScope st) f cdv A outer s H E) k e →
      DSs O (cxHot P w K mg base N qual (defScope st) f cdv A outer s H E) (defBody st) (t e))
    (ok : ∀ ds μ q e, c ds μ q e → t e (endsD q) (startD n ds) μ) : FnGH P w K mg base (k + 1) f fd ps (LSpH K c) := by
  subst hn
  refine fnGH_of F S (fun A vs H Q E ⟨F, μ, ds, q, e, _, hd, r, hc, _⟩ => by rw [← r.length]; exact len _ _ _ _ hc) ?_
  rintro cdv A outer s H vs Q E room gd ⟨F0, μ, ds, q, e, hot, hd, r, hc, hq, hE⟩
  have tk : L2N.Takes (cxHot P w K mg base N qual (defScope st) f cdv A outer s H E) (fun cls d _ H2 => LX K ⟨F0, H⟩ e cls d H2) := by
    have z := L2N.takes_of (X := cxHot P w K mg base N qual (defScope st) f cdv A outer s H E) (E := E) rfl rfl rfl rfl
    exact z.imp fun cls d _ H' h => hE cls d H' h
  refine ⟨_, der cdv A outer s H E ⟨F0, H⟩ e ⟨room, gd, L2N.passes_call tk fun _ _ _ _ h => h, hot⟩, F0, startD N.length ds, μ, _, hd, repS_start r, ok ds μ q e hc, ⟨?_, ?_, ?_, ?_⟩⟩
  · rintro F1 H1 μ1 δ1 σ1 e1 hd1 rs1 ⟨μ2, s2, q2⟩
    exact hq F1 H1 μ2 .non .non (hd1.sub s2) rfl q2
  · rintro F1 H1 μ1 d v e1 hd1 r1 ⟨μ2, s2, q2⟩
    exact hq F1 H1 μ2 d v (hd1.sub s2) r1 q2
  · intro _ _ _ _ _ _ _ _ z; exact z.elim
  · intro _ _ _ _ _ _ _ _ z; exact z.elim
end
structure FdH (P : Program) (w : World) (K : PySem.W.Frag) (mg : Str → Option Value) (base : Heap) (x : Str) (k : Nat) (ps : List Str) (c : DSp) : Prop where
  ex : ∃ (f : Addr) (fd : FuncData), FnGH P w K mg base k f fd ps (LSpH K c) ∧ mg x = some (.ref f) ∧ PySem.W.keepIn K (.ref f) = true ∧ Binds K fd ps []
section
variable {O : Org} {X : Cx} {k j : Nat} {f : Addr} {fd : FuncData} {ps : List Str} {c : DSp} {e : DX} {x : Str} {p pos : Pos} {a : Expr} {es : List Expr} {t : DTA}
theorem run_fnGH {pins : List (Addr × Obj)} {σ : L2.St} {H : Hp} {s : Shared} {Q : VK} {E : XK} {sp : Around → Sp} {us : List Value} {vs : List V} (F : FnGH X.prog X.w X.K X.mg X.base k f fd ps sp) (hr : L2H.RoomH k X.A) (hgd : X.A.guards = some []) (hb : Binds X.K fd ps []) (hx : Passes (L2N.CX X.prog X.w) X E)
    (I : Inv X pins σ H s) (r : Vals vs us) (h : sp X.A vs H Q E) : wpAny (model X.prog X.w) X.A (call (.ref f) us) (EP X pins σ Q) X.xe s := by
  have hl : us.length = ps.length := r.length.symm.trans (F.len _ _ _ _ _ h)
  have bb := hb s us I.kIn (by rw [List.append_nil]; exact hl)
  rw [List.append_nil] at bb
  refine wpAny_call (codeAny_mono (F.run X.A X.stack s H ⟨us, []⟩ _ _ Q E hr hgd I.env0 bb r h) ?_)
  intro res s2 end2
  match res, end2 with
  | .error e, end2 => exact hx pins σ H s e s2 I end2
  | .ok (.ret u), end2 => exact I.after end2
/-- f(e, ..) while the exception is handled; nothing is raised -/
theorem de_callH (hot : HotO O X.A) (F : FdH X.prog X.w X.K X.mg X.base x k ps c) (hr : L2H.RoomH k X.A) (hgd : X.A.guards = some []) (hg : Gl X x)
    (ha : DA O X (a :: es) t) (hdb : (x == ("__debug__" : Str)) = false := by decide) (he : starEach (a :: es) X.env = (false, eval a X.env) :: starEach es X.env := by rfl) (hpl : (backTo pos (starEach es X.env)).any (·.1) = false := by rfl) :
    DE O X (.Call (.Name x p) (a :: es) [] pos) (dCall c eN [] t) := by
  obtain ⟨f, fd, F, hm, hk, hb⟩ := F.ex
  constructor
  rintro pins s σ H Q I ⟨F0, δ, μ, q, hd, rs, tt, kk⟩
  refine wpAny_Call_Name_kw (ld_glob I hg hm ?_ hdb)
  refine PySem.W.callWith_K (h₀ := X.base) I.ok.mod.kin hk (thn (ha.run pos pins s σ H (fun vs H1 => LSpH X.K c X.A vs H1 Q (LX X.K O eN)) I ⟨F0, δ, μ, _, hd, rs, tt, fun F1 H1 μ1 ds vs e1 hd1 r1 t1 => ?_⟩) ?_) he hpl
  · rw [List.append_nil] at t1
    refine ⟨F1, μ1, ds, q, eN, hot.mv hd1, hd1.here, r1, t1, fun F2 H2 μ2 d v hd2 r2 q2 => ?_, fun cls dd H' ⟨C, b, v, d, F', μ', _, _, _, _, _, _, z⟩ => z.elim⟩
    obtain ⟨h1, h2⟩ := hd1.back hd2
    exact kk F2 H2 μ2 d v (e1.trans h2) h1 r2 q2
  · rintro us s1 ⟨vs, H1, I1, r, q1⟩
    exact ⟨I1.kIn, run_fnGH F hr hgd hb passesN I1 r q1⟩
end
/-- try: .. except E as n: a suite that returns: of the frame the exception alone is known there -/
def dTryH (isa : Addr → Prop) (m i : Nat) (tb : DX → DTS) (ts : DTS) : DTS := fun E δ μ => tb (fun C d μ2 => isa C ∧ ts { E with nx := fun _ _ => False, bk := fun _ _ => False, ct := fun _ _ => False } ((List.replicate m none).set i (some (.exc C d))) μ2) E δ μ
section
variable {O : Org} {X : Cx} {x n : Str} {c : Value} {i m k : Nat} {body suite : List Stmt} {np pos pos' : Pos} {tb : DX → DTS} {ts : DTS} {isa : Addr → Prop} {e : DX}
theorem ds_tryH (C : Ctx O X k e) (hs : X.stack = X.env :: X.outer) (hf : X.env.frame = some X.env.locals) (hN : X.N.Nodup) (hi : X.N[i]? = some n) (hm : X.N.length = m)
    (hln : X.env.kindOf n = some .local) (hc : L2.Names X x c) (hnil : suite ≠ [])
    (hsub : ∀ C, isa C → PySem.W.exmOne X.K (.ref C) c = some true)
    (hb : ∀ (O : Org) (e : DX) (pn : List (Addr × Obj)) (xe : Value → Shared → Prop), Ctx O (X.tr pn xe) k e → L2N.Takes (X.tr pn xe) (fun cls d _ H2 => LX X.K O e cls d H2) → PassesOwn (model X.prog X.w) X.A X.env xe → DSs O (X.tr pn xe) body (tb e))
    (hsu : ∀ (O : Org) (a : Addr) (pn : List (Addr × Obj)), CtxH O (X.suite a pn) k eN → DSs O (X.suite a pn) suite ts) :
    DSt O X (.Try body [.ExceptHandler (some (.Name x np)) (some n) suite pos'] [] [] pos) (dTryH isa m i tb ts) := by
  have no : L2N.Takes X (fun _ _ _ _ => False) := fun u s' ⟨_, _, _, _, _, _, _, _, _, _, _, _, _, _, _, _, z⟩ => z.elim
  refine ps_weak (L2N.ps_try_hot (tb := fun W Z σ H => ∃ O' e', (∀ cls d σ1 H2, LX X.K O' e' cls d H2 → W cls d σ1 H2) ∧ LS X.K O' (tb e') Z σ H)
    (ts := fun a Z σ H => ∃ O', HotO O' (X.suite a []).A ∧ LS X.K O' ts Z σ H) hs hf hN hi hln hc no hnil (fun W pn xe tkW ow => ?_) (fun a pn => ?_)) ?_
  · refine ⟨fun pins s σ H D I ⟨O', e', hW, h⟩ => ?_⟩
    have tk' : L2N.Takes (X.tr pn xe) (fun cls d _ H2 => LX X.K O' e' cls d H2) := tkW.imp fun cls d σ1 H2 h => hW cls d σ1 H2 h
    exact (hb O' e' pn xe ⟨C.room, C.gd, L2N.passes_call tk' fun _ _ _ _ h => h⟩ tk' ow).run pins s σ H D I h
  · refine ⟨fun pins s σ H D I ⟨O', hot, h⟩ => ?_⟩
    exact (hsu O' a pn ⟨⟨C.room.dp, C.room.un⟩, C.gd, passesN, hot⟩).run pins s σ H D I h
  · rintro Z σ H ⟨F, δ, μ, E, hd, rs, t, L⟩
    refine ⟨⟨F, H⟩, _, ?_, F, δ, μ, E, hd.here, rs, t, L.here hd⟩
    rintro cls dd σ1 H2 ⟨C', dx, w, d, F', μ', rfl, rfl, hx, hd', r, fx, his, q⟩
    refine ⟨true, hsub C' his, fun _ a oe fs na hlen zn hfl hcx => ?_, fun z => nomatch z⟩
    have il : i < σ1.length := by rw [hlen]; exact (List.getElem?_eq_some_iff.mp hi).1
    have ne : dx ≠ a := fun z => by rw [z, na] at hx; cases hx
    have ex := hd'.org.trans (ext_newF (o := exh oe) hd' na)
    have hn := hd'.newF (o := exh oe) na
    refine ⟨⟨addF F' a, upd H2 a (exh oe)⟩, ⟨a, oe, fs, rfl, .inr rfl, upd_same, hfl, hcx⟩, addF F' a, _, μ', _, hn.here, ⟨by simp [hlen, hm], fun u d0 e0 => ?_⟩, q, ⟨?_, ?_, ?_, ?_⟩⟩
    · by_cases z : u = i
      · subst z
        have jl : u < m := by rw [← hm]; exact (List.getElem?_eq_some_iff.mp hi).1
        rw [List.getElem?_set_self (by simpa using jl)] at e0
        obtain rfl := Option.some.inj (Option.some.inj e0)
        exact ⟨.ref a, by rw [List.getElem?_set_self il], a, oe, dx, w, rfl, ⟨.inr rfl, upd_same⟩, ⟨zn.1, zn.2.1, ⟨fs, hfl⟩⟩, ⟨.inl fx, by rw [upd_ne ne]; exact hx⟩, r.ext (ext_newF hd' na)⟩
      · rw [List.getElem?_set_ne (Ne.symm z)] at e0
        have := List.mem_of_getElem? e0
        rw [List.mem_replicate] at this
        exact absurd this.2 (by simp)
    · intro _ _ _ _ _ _ _ _ z; exact z.elim
    · rintro F3 H3 μ3 d3 v3 e3 hd3 r3 q3
      have b := hn.back hd3
      exact L.rt F3 H3 μ3 d3 v3 (ex.trans b.2) (hd.back b.1).1 r3 q3
    · intro _ _ _ _ _ _ _ _ z; exact z.elim
    · intro _ _ _ _ _ _ _ _ z; exact z.elim
end
end DL

set_option Elab.async false
set_option linter.all false
set_option maxRecDepth 100000
set_option maxHeartbeats 2000000
/-! DXM: an exception of an own class made as a value, C(e) and C(value = e); it is tracked from its making on -/
namespace PySem
namespace ErrX
open PySem.W PySem.Calls PyProof.Rows PySem.HandSPX
section
variable {prog : Program} {w : World} {A : Around} {E : Value → Shared → Prop} {R : Result → Shared → Prop} {h : Heap} {g : Array GenState} {d : Drawn} {t : Nat} {os : OsState}
variable {nm q : Str} {C N : Addr} {bs bm bmB : List Value} {hdct : Bool} {sn : List Str} {sub : List Value} {ab : Bool} {col : Option Bool} {dd : Option Addr} {k0 k1 k2 k3 k5 : Option Value} {B newId initId : String} {n : Str} {v : Value}
/-- __new__ lets one keyword pass -/
theorem kw_new_checked {M : Model} {Q : Unit → Shared → Prop} (F : ExcBaseFacts B newId initId bmB) (hT : ∀ X : String, bm.contains (.type X) = bmB.contains (.type X))
    (hC : h.get? C = some (excClassObj nm q C N bs bm hdct sn sub ab col dd k0 k1 k2 k3 k5 newId)) (hq : Q () ⟨h, g, d, t, os⟩) : wpAny M A (checkBuiltinCall newId ⟨[.ref C], [(n, v)]⟩) Q E ⟨h, g, d, t, os⟩ := by
  have isB : (Value.ref C :: bm).contains (.type B) = true := by rw [List.contains_cons, hT, F.hasB, Bool.or_true]
  have star := F.noStar
  simp only [checkBuiltinCall, F.newKind, F.newSplit, F.newRow]
  repeat (first | refine wpAny_loadPart_at hC ?_ | (refine wpAny_isSubtype_exc hC ?_; rw [isB]) | refine wpAny_staticBase_exc hC ?_ | refine wpAny_madeBy_exc hC ?_ | simp only [bne_self_eq_false, Bool.false_eq_true, if_false] | wp_step)
  exact hq
theorem kw_new (F : ExcBaseFacts B newId initId bmB) (hT : ∀ X : String, bm.contains (.type X) = bmB.contains (.type X))
    (hC : h.get? C = some (excClassObj nm q C N bs bm hdct sn sub ab col dd k0 k1 k2 k3 k5 newId))
    (hq : R (.ok (.ret (.ref (h.objs.size + 1)))) ⟨(h.push (kdv_tup [])).push (excO C h.objs.size), g, d, t, os⟩) : codeAny (model prog w) A (.builtin newId ⟨[.ref C], [(n, v)]⟩) R ⟨h, g, d, t, os⟩ := by
  have ends := F.ends
  have isB : (Value.ref C :: bm).contains (.type B) = true := by rw [List.contains_cons, hT, F.hasB, Bool.or_true]
  have noA : (Value.ref C :: bm).contains (.type "AttributeError") = false := by rw [List.contains_cons, hT, F.noAttr]; rfl
  have noN : (Value.ref C :: bm).contains (.type "NameError") = false := by rw [List.contains_cons, hT, F.noName]; rfl
  refine codeAny_builtinAt F.entry ?_
  unfold Builtin.«BaseException.__new__»
  refine wpAt_bind ?_
  show wpAt _ _ _ (stack >>= _) _ _ _
  refine wpAt_bind (wpAt_stack fun p below => wpAt_of_wpAny ?_)
  wp_walk
  refine wpAt_of_wpAny ?_
  rw [F.owner]
  repeat (first | with_reducible refine wpAny_madeHere_exc F.canon hC ?_ | with_reducible refine wpAny_loadPart_at hC ?_ | (with_reducible refine wpAny_isSubtype_exc hC ?_; first | rw [isB] | rw [noA] | rw [noN]) | wp_step)
  show R _ _
  rw [Heap.size_push]
  exact hq
theorem kw_made {fI : Addr} (F : ExcBaseFacts B newId initId bmB) (hT : ∀ X : String, bm.contains (.type X) = bmB.contains (.type X))
    (hC : h.get? C = some (excClassObj nm q C N bs bm hdct sn sub ab col dd k0 k1 k2 k3 k5 newId))
    (hi : W.Looks (model prog w) h (typeLookup (.ref C) "__init__") (some (.ref fI))) (hb : ∀ self, W.Looks (model prog w) h (bindSpecial (.ref fI) self) (.ref fI, [self]))
    (hq : codeAny (model prog w) (A.under (.builtin "type.__call__" ⟨[.ref C], [(n, v)]⟩)) (.call (.ref fI) ⟨[.ref (h.objs.size + 1)], [(n, v)]⟩) (W.InitBack (h.objs.size + 1) R) ⟨(h.push (kdv_tup [])).push (excO C h.objs.size), g, d, t, os⟩) :
    codeAny (model prog w) A (.call (.ref C) ⟨[], [(n, v)]⟩) R ⟨h, g, d, t, os⟩ := by
  have e1 := tc_lookup
  have e2 := tc_bind (.ref C)
  have e3 := tc_sub
  have ty : (⟨h, g, d, t, os⟩ : Shared).TypeIs (.ref C) "type" := ⟨_, hC, rfl⟩
  refine codeAny_of_tree ?_
  show wpAny _ _ (callAny (.ref C) _) _ _ _
  repeat (any_goals (first | assumption | with_reducible refine wpAny_loadPart_at hC ?_ | wp_step))
  refine ⟨rfl, ?_⟩
  refine codeAny_call_builtin_at (Code.quiet_builtin _ (by decide +kernel)) entry_typeCall ?_
  simp only [checkBuiltinCall, tc_kind, tc_split]
  repeat (any_goals (first | assumption | with_reducible refine wpAny_loadPart_at hC ?_ | with_reducible refine wpAny_onRaise ?_ | with_reducible refine wpAny_map ?_ | wp_step))
  all_goals skip
  repeat (first | with_reducible refine wpAny_loadPart_at hC ?_ | with_reducible refine wpAny_madeBy_exc hC ?_ | wp_step)
  refine codeAny_call_builtin_code (Code.quiet_builtin _ F.quiet) (kw_new_checked F hT hC ?_)
  refine kw_new F hT hC ?_
  show wpAny _ _ _ _ _ _
  have k : ∀ b o, h.get? b = some o → ((h.push (kdv_tup [])).push (excO C h.objs.size)).get? b = some o := fun b o e => Heap.get?_push_of_some _ (Heap.get?_push_of_some _ e)
  have hC1 := k _ _ hC
  have me : ((h.push (kdv_tup [])).push (excO C h.objs.size)).get? (h.objs.size + 1) = some (excO C h.objs.size) := by heap_get
  have self : (Value.ref C :: bm).contains (.ref C) = true := by simp
  unfold isInstance
  repeat (first | with_reducible refine wpAny_loadPart_at me ?_ | (with_reducible refine wpAny_isSubtype_exc hC1 ?_; rw [self]) | wp_step)
  show wpAny _ _ (typeLookup (.ref C) _) _ _ _
  refine (hi.keeps k).at ?_
  refine wpAny_holding (wpAny_bind (((hb (.ref (h.objs.size + 1))).keeps k).at ?_))
  refine wpAny_bind (wpAny_call (codeAny_mono hq fun r s' z => ?_))
  rcases r with e | (u | _ | _ | _) <;> first | exact z | exact z.elim | skip
  obtain ⟨rfl, z⟩ := z
  first
    | exact wpAny_pure (wpAny_pure z)
    | (wp_walk; exact z)
end
end ErrX
end PySem
namespace PySem
namespace ErrX
open PySem.W PySem.Calls PyProof.Rows PySem.HandSPX
section
variable {prog : Program} {w : World} {A : Around} {E : Value → Shared → Prop} {R : Result → Shared → Prop} {s : Shared} {K : Frag} {mg : Str → Option Value} {nn : Str} {C fI : Addr}
theorem err_initK (T : ErrTxt K mg nn C fI) {x t0 : Addr} {v : Value} (X : K.In s.heap) (hlim : s.heap.NoLimit) (hx : s.heap.get? x = some (excO C t0)) (hnx : K.lookup x = none) (hroom : A.depth < recursionLimit)
    (hq : ∀ h' tk dx, InitEnd s.heap h' x C dx t0 v → R (.ok (.ret .none)) { s with heap := h', toks := tk }) :
    codeAny (model prog w) A (.call (.ref fI) ⟨[.ref x], [(("value" : Str), v)]⟩) R s := by
  obtain ⟨oc, od, doc, pm, an, cdv, ct, osl, p1, p2, q1, q2, q3, q4, ho, hcd⟩ := T.fn
  obtain ⟨nm, q, N, bs, bm, sn, sub, ab, col, dd, k0, k1, k2, k3, k5, hC, hbm⟩ := T.cls
  have hcl : clsIn K C = some { name := nm, bases := bs, mro := .ref C :: bm, ns := N, qualname := q, hasDict := true, slotNames := sn, subclasses := sub, abstract := ab, collection := col, hasDel := false } := by unfold clsIn; rw [hC] <;> rfl
  refine Att.call_fn (binds := [("self", .ref x), ("value", v)]) X hlim ho hcd hroom (BindsTo.of_eq (by first | rfl | with_unfolding_all rfl)) (by first | rfl | decide | with_unfolding_all rfl) (fun s₁ IC => ?_) rfl rfl rfl
  obtain ⟨h₁, tk₁, rfl⟩ := IC.toInCall.same
  have k : ∀ b o, s.heap.get? b = some o → h₁.get? b = some o := IC.toInCall.keep
  have hn := IC.toInCall.ns
  have hxL : s.heap.objs.size ≠ x := Nat.ne_of_gt (Heap.lt_size hx)
  have X₁ : K.In h₁ := X.keeps k
  have hx₁ := k _ _ hx
  show wpAny _ _ (execs _ _) _ _ _
  refine wpAny_execs_cons (plainObj_wpAny_Assign_Attribute ?_)
  refine ldC (v := v) hn (by first | rfl | with_unfolding_all rfl | kernel_rfl) (ldC (v := .ref x) hn (by first | rfl | with_unfolding_all rfl | kernel_rfl) ?_)
  refine set_plain X₁ (ox := excO C t0) (od := none) ⟨hx₁, rfl, rfl, trivial⟩ T.sa ?_
  refine exc_osa X₁ hx₁ hcl (show refsVE (.ref C :: bm) = true from hbm) rfl T.noN (fun h₃ tk₃ dx k₃ dn dne hx₃ hn₃ => ?_)
  show wpAny _ _ (execs _ _) _ _ _
  have z : s.heap.objs.size < h₁.objs.size := hn.lt
  exact wpAny_execs_nil (hq h₃ tk₃ dx ⟨fun b o hb e => k₃ b o hb (k b o e), hx₃, Nat.le_of_lt (Nat.lt_of_lt_of_le z dn), dne, hn₃⟩)
theorem err_madeK (T : ErrTxt K mg nn C fI) {v : Value} (X : K.In s.heap) (hlim : s.heap.NoLimit) (hroom : A.depth + 1 < recursionLimit)
    (hq : ∀ h' tk e d, OwnMade s.heap h' e C d v → R (.ok (.ret (.ref e))) { s with heap := h', toks := tk }) :
    codeAny (model prog w) A (.call (.ref C) ⟨[], [(("value" : Str), v)]⟩) R s := by
  obtain ⟨nm, q, N, bs, bm, sn, sub, ab, col, dd, k0, k1, k2, k3, k5, hC, hbm⟩ := T.cls
  obtain ⟨hp, g, dr, tk, os⟩ := s
  have k : ∀ b o, hp.get? b = some o → ((hp.push (kdv_tup [])).push (excO C hp.objs.size)).get? b = some o := fun b o e => Heap.get?_push_of_some _ (Heap.get?_push_of_some _ e)
  have hget : ((hp.push (kdv_tup [])).push (excO C hp.objs.size)).get? (hp.objs.size + 1) = some (excO C hp.objs.size) := by heap_get
  have hnx : K.lookup (hp.objs.size + 1) = none := by
    cases e : K.lookup (hp.objs.size + 1) with
    | none => rfl
    | some o =>
      have z : hp.get? (hp.objs.size + 1) = some o := X _ _ e
      exact absurd (Nat.lt_of_succ_lt (Heap.lt_size z)) (Nat.lt_irrefl _)
  refine kw_made F.excBase_ValueError (fun X => refsVE_contains X bm hbm) (X _ _ hC) (looks_findIn X T.iC) (fun self => bind_fn X self T.tC) ?_
  refine err_initK (s := ⟨(hp.push (kdv_tup [])).push (excO C hp.objs.size), g, dr, tk, os⟩) T (X.keeps k) (hlim.keeps k) hget hnx ?_ fun h' tk' dx ⟨k', hx, dn, dne, hns⟩ => ?_
  · show A.depth + 1 < recursionLimit
    exact hroom
  · have old : ∀ b o, hp.get? b = some o → h'.get? b = some o := fun b o e => k' b o (Nat.ne_of_lt (Nat.lt_succ_of_lt (Heap.lt_size e))) (k b o e)
    have z : hp.objs.size + 1 + 1 ≤ dx := by
      first
        | (simpa only [Heap.size_push] using dn)
        | exact dn
        | (have q := dn; rw [Heap.size_push, Heap.size_push] at q; exact q)
    exact ⟨rfl, hq h' tk' (hp.objs.size + 1) dx ⟨old, Nat.le_succ _, ⟨_, _, hx, rfl, rfl, rfl, rfl, rfl⟩, Nat.le_trans (Nat.le_trans (Nat.le_succ _) (Nat.le_succ _)) z, dne, hns⟩⟩
end
end ErrX
end PySem
namespace L2
open PySem PySem.Spec PyProof.Rows
section
variable {X : Cx} {nn : Str} {C fI : Addr}
/-- an exception stands made: it and its dict are tracked -/
def XEnd (H1 : Hp) (C : Addr) (v : V) (Q : VK) : Prop := ∀ e oe d, H1 e = none → H1 d = none → d ≠ e → (oe.cls = .ref C ∧ oe.dict = some d ∧ ∃ vs, oe.data = .fields vs) → Q (.ref e) (upd (upd H1 d (.xd [(("value" : Str), v)])) e (DL.exh oe))
theorem xend_ok {pins : List (Addr × Obj)} {σ : L2.St} {H1 : Hp} {hp h' : Heap} {g : Array GenState} {dr : Drawn} {tk tk' : Nat} {os : OsState} {e d : Addr} {v : V} {v' : Value} {Q : VK} (I1 : Inv X pins σ H1 ⟨hp, g, dr, tk, os⟩) (rv : RelV v v')
    (M : PySem.ErrX.OwnMade hp h' e C d v') (q : XEnd H1 C v Q) : EP X pins σ Q (.ref e) ⟨h', g, dr, tk', os⟩ := by
  obtain ⟨oe, fv, hoe, hc, hd, hdat, _, _⟩ := M.obj
  have ob : ObjOk X.prog X.w (upd H1 d (.xd [(("value" : Str), v)])) h' d (.xd [(("value" : Str), v)]) := ⟨_, M.ns, fun f => relO_err rv f⟩
  have J : Inv X pins σ (upd H1 d (.xd [(("value" : Str), v)])) ⟨h', g, dr, tk', os⟩ := I1.laid (t' := tk') M.keep M.dbig ob
  have he1 : H1 e = none := I1.hok.fresh M.new
  have old : ∀ o, hp.get? e ≠ some o := fun o z => absurd (Heap.lt_size z) (Nat.not_lt.mpr M.new)
  have J2 := J.track (a := e) (oe := oe) hoe (by rw [upd_ne (Ne.symm M.dne)]; exact he1)
    (fun z => by
      obtain ⟨m, hm, _⟩ := I1.loc
      have : X.env.locals < hp.objs.size := hm.lt
      rw [← z] at this
      exact absurd this (Nat.not_lt.mpr M.new))
    (fun w z => by rw [hdat] at z; cases z)
    (fun p hp' z => by
      obtain ⟨h1, _⟩ := I1.pin p hp'
      exact old p.2 (by rw [← z]; exact h1))
    (fun o z n => by
      by_cases hx : e ∈ X.ex
      · exact hx
      · obtain ⟨o', h1⟩ := I1.base.there e o z hx
        exact absurd h1 (old o'))
  exact ⟨.ref e, _, J2, rfl, q e oe d he1 (I1.hok.fresh M.dbig) M.dne ⟨hc, hd, fv, hdat⟩⟩
/-- C(e), C(value = e), as a value -/
def tMkX (C : Addr) (ta : TA) : TE := fun σ H Q => ta σ H fun vs H1 => ∃ v, vs = [v] ∧ XEnd H1 C v Q
theorem pe_mkX {a : Expr} {ta : TA} {p pos : Pos} {k : Nat} (T : PySem.ErrX.ErrTxt X.K X.mg nn C fI) (hr : Room k X.A) (ha : PA X [a] ta) (hg : Gl X nn) (hdb : (nn == ("__debug__" : Str)) = false)
    (he : starEach (a :: []) X.env = (false, eval a X.env) :: starEach [] X.env) (hpl : (backTo pos (starEach [] X.env)).any (·.1) = false) :
    PE X (.Call (.Name nn p) [a] [] pos) (tMkX C ta) := by
  constructor
  intro pins s σ H Q I h
  refine wpAny_Call_Name_kw (ld_glob I hg T.gC ?_ hdb)
  refine PySem.W.callWith_K (h₀ := X.base) I.ok.mod.kin T.kC (thn (ha.run pos pins s σ H _ I h) fun us s1 hh => ?_) he hpl
  obtain ⟨vs, H1, I1, r1, v, ev, q1⟩ := hh
  subst ev
  refine ⟨I1.kIn, ?_⟩
  obtain ⟨v', rfl, rv⟩ := r1.one
  have hlim := I1.nolimit
  obtain ⟨hp, g, dr, tk, os⟩ := s1
  exact wpAny_call (PySem.ErrX.err_made T I1.kIn hlim (by have := hr.dp; omega) fun h' tk' e d M => xend_ok I1 rv M q1)
theorem pe_mkXK {a : Expr} {tk : TA} {p pos kpos : Pos} {k : Nat} (T : PySem.ErrX.ErrTxt X.K X.mg nn C fI) (hr : Room k X.A) (hkw : PK X [⟨some "value", a, kpos⟩] tk) (hg : Gl X nn) (hdb : (nn == ("__debug__" : Str)) = false)
    (hall : (backToKw pos (keywordEach [⟨some "value", a, kpos⟩] X.env)).all (·.1.isSome) = true) (hks : (backToKw pos (keywordEach [⟨some "value", a, kpos⟩] X.env)).filterMap (·.1) = [("value" : Str)])
    (hpl : ((backTo pos (starEach [] X.env)).any (·.1) || (backToKw pos (keywordEach [⟨some "value", a, kpos⟩] X.env)).any (·.1.isNone)) = false) :
    PE X (.Call (.Name nn p) [] [⟨some "value", a, kpos⟩] pos) (tMkX C tk) := by
  constructor
  intro pins s σ H Q I h
  refine wpAny_Call_Name_kw (ld_glob I hg T.gC ?_ hdb)
  refine PySem.W.callWith_KW0 (h₀ := X.base) I.ok.mod.kin T.kC hall ?_ hpl
  refine thn (hkw.run pos pins s σ H _ I h) ?_
  rintro ws s1 ⟨zs, H1, I1, rz, v, ev, q1⟩
  subst ev
  refine ⟨I1.kIn, ?_⟩
  obtain ⟨v', rfl, rv⟩ := rz.one
  rw [hks]
  have hlim := I1.nolimit
  obtain ⟨hp, g, dr, tk, os⟩ := s1
  exact wpAny_call (PySem.ErrX.err_madeK T I1.kIn hlim (by have := hr.dp; omega) fun h' tk' e d M => xend_ok I1 rv M q1)
end
end L2
namespace DL
open PySem L2
/-- C(e) or C(value = e) of an own exception -/
def dMkX (C : Addr) (te : DTE) : DTE := fun δ μ q => te δ μ fun d μ1 => q (.exc C d) μ1
section
variable {O : Org} {X : Cx} {nn : Str} {C fI : Addr} {a : Expr} {te : DTE} {p pos kpos : Pos} {k : Nat}
theorem lmkx {K : PySem.W.Frag} : ∀ σ H Q, LE K O (dMkX C te) σ H Q → tMkX C (LA K O (dCons te dNil)) σ H Q := fun σ H Q ⟨F, δ, μ, q, hd, rs, t, kk⟩ =>
  ⟨F, δ, μ, fun ds μ1 => match ds with | [d] => q (.exc C d) μ1 | _ => False, hd, rs, t, fun F1 H1 μ1 ds vs e1 hd1 r1 t1 => by
    match ds, r1, t1 with
    | [d], r1, t1 =>
      obtain ⟨v, r, rfl, rv, rn⟩ := r1
      obtain rfl : r = [] := rn
      refine ⟨v, rfl, fun e oe dx he hdx hne hoe => ?_⟩
      have x1 := ext_newF (o := HO.xd [(("value" : Str), v)]) hd1 hdx
      have h1 := hd1.newF (o := HO.xd [(("value" : Str), v)]) hdx
      have he' : upd H1 dx (HO.xd [(("value" : Str), v)]) e = none := by rw [upd_ne (Ne.symm hne)]; exact he
      have x2 := ext_newF (o := exh oe) h1 he'
      exact kk _ _ μ1 (.exc C d) _ ((e1.trans x1).trans x2) (h1.newF he') ⟨e, oe, dx, v, rfl, ⟨.inr rfl, upd_same⟩, hoe, ⟨.inl (.inr rfl), by rw [upd_ne hne]; exact upd_same⟩, (Rep.ext x1 d v rv).ext x2⟩ t1⟩
theorem de_mkX (T : PySem.ErrX.ErrTxt X.K X.mg nn C fI) (hr : Room k X.A) (ha : DE O X a te) (hg : Gl X nn := by rfl) (hdb : (nn == ("__debug__" : Str)) = false := by decide)
    (he : starEach (a :: []) X.env = (false, eval a X.env) :: starEach [] X.env := by rfl) (hpl : (backTo pos (starEach [] X.env)).any (·.1) = false := by rfl) : DE O X (.Call (.Name nn p) [a] [] pos) (dMkX C te) :=
  pe_weak (pe_mkX T hr (da_cons ha da_nil he) hg hdb he hpl) lmkx
theorem de_mkXK (T : PySem.ErrX.ErrTxt X.K X.mg nn C fI) (hr : Room k X.A) (ha : DE O X a te) (hg : Gl X nn := by rfl) (hdb : (nn == ("__debug__" : Str)) = false := by decide)
    (hall : (backToKw pos (keywordEach [⟨some "value", a, kpos⟩] X.env)).all (·.1.isSome) = true := by rfl) (hks : (backToKw pos (keywordEach [⟨some "value", a, kpos⟩] X.env)).filterMap (·.1) = [("value" : Str)] := by rfl)
    (hpl : ((backTo pos (starEach [] X.env)).any (·.1) || (backToKw pos (keywordEach [⟨some "value", a, kpos⟩] X.env)).any (·.1.isNone)) = false := by rfl) : DE O X (.Call (.Name nn p) [] [⟨some "value", a, kpos⟩] pos) (dMkX C te) :=
  pe_weak (pe_mkXK T hr (dk_cons ha dk_nil) hg hdb hall hks hpl) lmkx
end
end DL

set_option Elab.async false
set_option linter.all false
set_option maxRecDepth 100000
set_option maxHeartbeats 2000000
/-! DXP: repr of any plain datum -/
namespace DL
open PySem L2 PySem.Spec PyProof.Rows
theorem call_reprP {X : Cx} (hg : X.A.guards = some []) (hu : X.A.units + 66 < cLine) :
    CallR X (.builtin "repr") (fun xs H Q => ∃ x d, xs = [x] ∧ Dp X.K H x d ∧ SeqAt.shaped d = true ∧ d.showable = true ∧ d.shown.length ≤ sizeLine ∧ Q (.str d.shown) H) := by
  intro pins s σ H xs us Q I r h
  obtain ⟨x, d, rfl, hd, sd, hs, hz, q⟩ := h
  have seq : ∀ a, x = .ref a → wpAny (model X.prog X.w) X.A (call (.builtin "repr") us) (EP X pins σ Q) X.xe s := fun a e => by
    subst e
    exact call_reprD hg hu pins s σ H _ us Q I r ⟨a, d, rfl, hd, sd, hs, hz, q⟩
  cases hd with
  | non =>
    obtain ⟨u, rfl, rx⟩ := vals1 r
    cases rx
    exact PySem.P.repr_of_none ⟨.str _, H, I.tok _, ⟨_, rfl⟩, q⟩
  | bl b =>
    obtain ⟨u, rfl, rx⟩ := vals1 r
    cases rx
    exact PySem.P.repr_of_bool ⟨.str _, H, I.tok _, ⟨_, rfl⟩, q⟩
  | int i =>
    obtain ⟨u, rfl, t, rfl⟩ := vals1 r
    exact PySem.P.repr_of_int (of_decide_eq_true hs) ⟨.str _, H, I.tok _, ⟨_, rfl⟩, q⟩
  | str y =>
    obtain ⟨u, rfl, t, rfl⟩ := vals1 r
    exact PySem.P.repr_of_str ⟨.str _, H, I.tok _, ⟨_, rfl⟩, q⟩ hz
  | lst _ _ => exact seq _ rfl
  | tup _ _ => exact seq _ rfl
def rReprP : DC2 := fun ds μ q => match ds with
  | [d] => plainD 64 (nrm μ d) = true ∧ shownOk (nrm μ d) ∧ q (.str (txt (nrm μ d))) μ
  | _ => False
theorem cd_reprP {K : PySem.W.Frag} : CallD K (fun xs H Q => ∃ x d, xs = [x] ∧ Dp K H x d ∧ SeqAt.shaped d = true ∧ d.showable = true ∧ d.shown.length ≤ sizeLine ∧ Q (.str d.shown) H) rReprP := by
  intro O F H μ ds vs q Q hd rs t k
  unfold rReprP at t
  split at t
  · rename_i d
    obtain ⟨v, rfl, h1⟩ := repL1 rs
    obtain ⟨t2, ⟨t3, t4⟩, t5⟩ := t
    exact ⟨v, _, rfl, nrm_rep hd t2 h1, shaped_of t2, t3, t4, k F H μ (.str (txt (nrm μ d))) _ (Ext.refl F H) hd rfl t5⟩
  · exact t.elim
end DL

set_option Elab.async false
set_option linter.all false
set_option maxRecDepth 100000
set_option maxHeartbeats 2000000
/-! DOA: a + b by an own __add__; a chain of three -/
namespace L2
open PySem PySem.Spec PyProof.Rows
def tChain3 (r r' r'' : R2) (ta tb tc td : TE) : TE := fun σ H Q => ta σ H fun x H1 => tb σ H1 fun y H2 => r x y H2 fun z H3 => ∃ k, z = .bl k ∧
  (if k = true then tc σ H3 fun y2 H4 => r' y y2 H4 fun z2 H5 => ∃ k2, z2 = .bl k2 ∧ (if k2 = true then td σ H5 fun y3 H6 => r'' y2 y3 H6 Q else Q (.bl false) H5) else Q (.bl false) H3)
section
variable {X : Cx} {a b c d : Expr} {ta tb tc td : TE} {pos : Pos}
theorem pt_chain3 {op op' op'' : CmpOp} {r r' r'' : R2} (ho : OpR X (compareOp op) r) (ho' : OpR X (compareOp op') r') (ho'' : OpR X (compareOp op'') r'') (ha : PE X a ta) (hb : PE X b tb) (hc : PE X c tc) (hd : PE X d td)
    (hm : lastMarks [op, op', op''] [b, c, d] = false := by with_unfolding_all rfl) : PT X (.Compare a [op, op', op''] [b, c, d] pos) (tTest (tChain3 r r' r'' ta tb tc td)) := by
  refine ⟨fun pins s σ H Q I h => ?_⟩
  refine isTrue_chain (thn (ha.run pins s σ H _ I h) fun v s1 ⟨x, H1, I1, r1, q1⟩ => test_link (thn (hb.run pins s1 σ H1 _ I1 q1) fun u s2 ⟨y, H2, I2, r2, q2⟩ =>
    thn (ho pins s2 σ H2 x y v u _ I2 r1 r2 q2) fun d s3 ⟨z, H3, I3, r3, k, e, q3⟩ => ?_)) hm
  subst e
  cases r3
  refine wpAny_truthy_bool ?_
  cases k with
  | false =>
    obtain ⟨k', e', q'⟩ := q3
    cases e'
    exact ite_ff ⟨H3, I3, q'⟩
  | true =>
    refine ite_tt (test_link (thn (hc.run pins s3 σ H3 _ I3 q3) fun w' s4 ⟨y2, H4, I4, r4, q4⟩ => thn (ho' pins s4 σ H4 y y2 u w' _ I4 r2 r4 q4) fun d' s5 ⟨z2, H5, I5, r5, k2, e2, q5⟩ => ?_))
    subst e2
    cases r5
    refine wpAny_truthy_bool ?_
    cases k2 with
    | false =>
      obtain ⟨k', e', q'⟩ := q5
      cases e'
      exact ite_ff ⟨H5, I5, q'⟩
    | true =>
      refine ite_tt (test_last (thn (hd.run pins s5 σ H5 _ I5 q5) fun w2 s6 ⟨y3, H6, I6, r6, q6⟩ => thn (ho'' pins s6 σ H6 y2 y3 w' w2 _ I6 r4 r6 q6) fun d2 s7 ⟨z3, H7, I7, r7, k3, e3, q7⟩ => ?_))
      subst e3
      cases r7
      exact wpAny_truthy_bool ⟨H7, I7, q7⟩
end
end L2
namespace DL
open PySem L2 PySem.Spec PyProof.Rows
def dChain3 (rd rd' rd'' : DR2) (ta tb tc td : DTE) : DTE := fun δ μ q => ta δ μ fun x μ1 => tb δ μ1 fun y μ2 => rd x y μ2 fun z μ3 => match z with
  | .bl k => if k = true then tc δ μ3 fun y2 μ4 => rd' y y2 μ4 fun z2 μ5 => (match z2 with
    | .bl k2 => if k2 = true then td δ μ5 fun y3 μ6 => rd'' y2 y3 μ6 q else q (.bl false) μ5
    | _ => False) else q (.bl false) μ3
  | _ => False
section
variable {O : Org} {X : Cx} {a b c d : Expr} {ta tb tc td : DTE} {pos : Pos} {r r' r'' : R2} {rd rd' rd'' : DR2}
theorem lchain3 {K : PySem.W.Frag} (h : OpD K r rd) (h' : OpD K r' rd') (h'' : OpD K r'' rd'') : ∀ σ H Q, LE K O (dChain3 rd rd' rd'' ta tb tc td) σ H Q → tChain3 r r' r'' (LE K O ta) (LE K O tb) (LE K O tc) (LE K O td) σ H Q := fun σ H Q ⟨F, δ, μ, q, hd, rs, t, k⟩ =>
  ⟨F, δ, μ, _, hd, rs, t, fun F1 H1 μ1 x v e1 hd1 r1 t1 => ⟨F1, δ, μ1, _, hd1, rs.ext e1, t1, fun F2 H2 μ2 y w e2 hd2 r2 t2 =>
    h O F2 H2 μ2 x y v w _ _ hd2 (r1.ext e2) r2 t2 fun F3 H3 μ3 z u e3 hd3 r3 t3 => by
      cases z <;> first | exact False.elim t3 | skip
      rename_i kb
      refine ⟨kb, r3, ?_⟩
      cases kb with
      | false =>
        dsimp only at t3
        rw [if_neg Bool.false_ne_true] at t3
        rw [if_neg Bool.false_ne_true]
        exact k F3 H3 μ3 _ _ ((e1.trans e2).trans e3) hd3 rep_bl t3
      | true =>
        dsimp only at t3
        rw [if_pos rfl] at t3
        rw [if_pos rfl]
        exact ⟨F3, δ, μ3, _, hd3, rs.ext ((e1.trans e2).trans e3), t3, fun F4 H4 μ4 y2 w2 e4 hd4 r4 t4 =>
          h' O F4 H4 μ4 y y2 w w2 _ _ hd4 (r2.ext (e3.trans e4)) r4 t4 fun F5 H5 μ5 z2 u2 e5 hd5 r5 t5 => by
            cases z2 <;> first | exact False.elim t5 | skip
            rename_i kb2
            refine ⟨kb2, r5, ?_⟩
            cases kb2 with
            | false =>
              dsimp only at t5
              rw [if_neg Bool.false_ne_true] at t5
              rw [if_neg Bool.false_ne_true]
              exact k F5 H5 μ5 _ _ ((((e1.trans e2).trans e3).trans e4).trans e5) hd5 rep_bl t5
            | true =>
              dsimp only at t5
              rw [if_pos rfl] at t5
              rw [if_pos rfl]
              exact ⟨F5, δ, μ5, _, hd5, rs.ext ((((e1.trans e2).trans e3).trans e4).trans e5), t5, fun F6 H6 μ6 y3 w3 e6 hd6 r6 t6 =>
                h'' O F6 H6 μ6 y2 y3 w2 w3 _ _ hd6 (r4.ext (e5.trans e6)) r6 t6 fun F7 H7 μ7 z3 u3 e7 hd7 r7 t7 => k F7 H7 μ7 z3 u3 ((((((e1.trans e2).trans e3).trans e4).trans e5).trans e6).trans e7) hd7 r7 t7⟩⟩⟩⟩
theorem dt_chain3 {op op' op'' : CmpOp} (ho : OpR X (compareOp op) r) (ho' : OpR X (compareOp op') r') (ho'' : OpR X (compareOp op'') r'') (h : OpD X.K r rd) (h' : OpD X.K r' rd') (h'' : OpD X.K r'' rd'') (ha : DE O X a ta) (hb : DE O X b tb) (hc : DE O X c tc) (hd : DE O X d td)
    (hm : lastMarks [op, op', op''] [b, c, d] = false := by with_unfolding_all rfl) : DT O X (.Compare a [op, op', op''] [b, c, d] pos) (dTest (dChain3 rd rd' rd'' ta tb tc td)) := pt_weak (pt_chain3 ho ho' ho'' ha hb hc hd hm) (ltest (lchain3 h h' h''))
end
/-! a + b, both of one own class that has __add__ -/
section
variable {O : Org} {X : Cx} {k : Nat} {C : Addr} {ps : List Str} {sp : Sp} {c : DSp} {e : DX} {E : XK} {a b : Expr} {ta tb : DTE} {pos : Pos}
def rAddOwn (C : Addr) (sp : Sp) (E : XK) : R2 := fun x y H Q => ∃ a b dx dy fs gs, x = .ref a ∧ y = .ref b ∧ H a = some (.ins C dx fs) ∧ H b = some (.ins C dy gs) ∧ sp [.ref a, .ref b] H Q E
theorem back_of {v : V} {u : Value} {Q : Value → Shared → Prop} {s : Shared} (r : RelV v u) (h : Q u s) : PySem.W.CmpBack Q u s := by
  cases v <;> first
    | (cases r; exact h)
    | (obtain ⟨t, rfl⟩ := r; exact h)
theorem op_addOwn (h : Mm X.prog X.w X.K X.mg X.base C "__add__" k ps c) (sf : PySem.W.selfFirst X.K C = true) (hr : Room k X.A) (hgd : X.A.guards = some []) (hx : Passes (L2N.CX X.prog X.w) X E) : OpR X (binaryOp .Add) (rAddOwn C (LSp X.K c) E) := by
  intro pins s σ H x y v u Q I rx ry hq
  obtain ⟨f, fd, hm, F, hb⟩ := h.ex
  obtain ⟨a, b, dx, dy, fs, gs, rfl, rfl, ha, hb', q⟩ := hq
  cases rx
  cases ry
  obtain ⟨mA, J, _⟩ := ins_get I.hok ha
  obtain ⟨mB, J', _⟩ := ins_get I.hok hb'
  obtain ⟨od, J, _⟩ := J.look
  obtain ⟨od', J', _⟩ := J'.look
  obtain ⟨m, hF⟩ := I.fr
  refine PySem.W.binop_K hF I.ok.mod.kin J J'.type sf hm.at_ hm.fn ?_
  have hl : ([Value.ref a, Value.ref b] ++ []).length = ps.length := F.len _ _ _ _ q
  refine wpAny_call (codeAny_mono (F.run X.A X.stack s H ⟨[.ref a, .ref b], []⟩ [.ref a, .ref b] [.ref a, .ref b] _ _ hr hgd I.env0 (hb _ [.ref a, .ref b] I.kIn hl) (.cons rfl (.cons rfl .nil)) q) ?_)
  intro res s2 end2
  match res, end2 with
  | .error er, end2 => exact hx pins σ H s er s2 I end2
  | .ok (.ret u), end2 =>
    obtain ⟨v, H', I3, rv, q3⟩ := I.after end2
    exact back_of rv ⟨v, H', I3, rv, q3⟩
def dAddOwn (C : Addr) (c : DSp) (e : DX) (ta tb : DTE) : DTE := fun δ μ q => ta δ μ fun x μ1 => tb δ μ1 fun y μ2 => match x, y with
  | .ins C1 n1 l1, .ins C2 n2 l2 => C1 = C ∧ C2 = C ∧ c [.ins C1 n1 l1, .ins C2 n2 l2] μ2 q e
  | _, _ => False
theorem de_addOwn (h : Mm X.prog X.w X.K X.mg X.base C "__add__" k ps c) (sf : PySem.W.selfFirst X.K C = true) (hr : Room k X.A) (hgd : X.A.guards = some []) (hx : Passes (L2N.CX X.prog X.w) X (LX X.K O e)) (ha : DE O X a ta) (hb : DE O X b tb) :
    DE O X (.BinOp a .Add b pos) (dAddOwn C c e ta tb) :=
  pe_weak (pe_op (op_addOwn h sf hr hgd hx) ha hb) fun σ H Q ⟨F, δ, μ, q, hd, rs, t, kk⟩ => ⟨F, δ, μ, _, hd, rs, t, fun F1 H1 μ1 x v e1 hd1 r1 t1 => ⟨F1, δ, μ1, _, hd1, rs.ext e1, t1, fun F2 H2 μ2 y w e2 hd2 r2 t2 => by
    cases x <;> cases y <;> first | exact False.elim t2 | skip
    obtain ⟨rfl, rfl, t2⟩ := t2
    have rx := r1.ext e2
    obtain ⟨a, dx, vs, rfl, ⟨_, h1⟩, h5⟩ := id rx
    obtain ⟨b, dy, ws, rfl, ⟨_, h2⟩, h6⟩ := id r2
    refine ⟨a, b, dx, dy, _, _, rfl, rfl, h1, h2, F2, μ2, _, _, e, hd2.here, .cons rx (.cons r2 RepL.nil), t2, fun F3 H3 μ3 d v hd3 r3 q3 => ?_, fun cls dd H' ⟨C, b, v, d, F', μ', h1, h2, h3, h4, h5, h6⟩ => ⟨C, b, v, d, F', μ', h1, h2, h3, (hd2.back h4).1, h5, h6⟩⟩
    obtain ⟨p1, p2⟩ := hd2.back hd3
    exact kk F3 H3 μ3 d v ((e1.trans e2).trans p2) p1 r3 q3⟩⟩
end
end DL

set_option Elab.async false
set_option linter.all false
set_option maxRecDepth 100000
set_option maxHeartbeats 2000000
/-! DOB: k in d of a dict; a sign in a text -/
namespace DL
open PySem L2 PySem.Spec PyProof.Rows
section
variable {X : Cx} {K : PySem.W.Frag}
def rDIn (neg : Bool) : R2 := fun x y H Q => ∃ a o, y = .ref a ∧ DGet H a x o ∧ Q (.bl (ng neg o.isSome)) H
theorem op_dIn (hu : X.A.units + 1 < cLine) : OpR X (compareOp .In) (rDIn false) := by
  intro pins s σ H x y v u Q I rx ry h
  obtain ⟨a, o, rfl, g, q⟩ := h
  cases ry
  exact d_in hu I g rx fun s' I' => ⟨.bl o.isSome, H, I', rfl, q⟩
theorem op_dNotIn (hu : X.A.units + 1 < cLine) : OpR X (compareOp .NotIn) (rDIn true) := by
  intro pins s σ H x y v u Q I rx ry h
  obtain ⟨a, o, rfl, g, q⟩ := h
  cases ry
  exact d_notIn hu I g rx fun s' I' => ⟨.bl (!o.isSome), H, I', rfl, q⟩
def rDInD (neg : Bool) : DR2 := fun x y μ q => match y, keyD x with
  | .adr p, some k => ∃ kvs, isDic μ p kvs ∧ q (.bl (ng neg (valD kvs k).isSome)) μ
  | _, _ => False
theorem od_dIn {neg : Bool} : OpD K (rDIn neg) (rDInD neg) := by
  intro O F H μ x y v w q Q hd rx ry t k
  cases y <;> first | exact False.elim t | skip
  rename_i p
  obtain rfl : w = .ref p := ry
  unfold rDInD at t
  cases hk : keyD x with
  | none => rw [hk] at t; exact False.elim t
  | some key =>
    rw [hk] at t
    obtain ⟨kvs, hm, t⟩ := t
    obtain ⟨vs, h1, h2⟩ := hm.rd hd
    obtain ⟨i1, i2, _⟩ := val_rep (k := key) h2
    obtain rfl := rep_key hk rx
    refine ⟨p, _, rfl, .inl ⟨_, key, h1, rfl, rfl⟩, ?_⟩
    have e : (valV ((kvs.map (·.1)).zip vs) key).isSome = (valD kvs key).isSome := by
      cases hv : valD kvs key with
      | none => rw [i2 hv]; rfl
      | some d =>
        obtain ⟨u, h3, _⟩ := i1 d hv
        rw [h3]; rfl
    rw [e]
    exact k F H μ _ _ (Ext.refl F H) hd rep_bl t
def rSgIn (neg : Bool) : DR2 := fun x y μ q => match x, y with
  | .str c, .str z => ∃ s, c = ⟨#[s]⟩ ∧ q (.bl (ng neg (decide (s ∈ z.cps.toList)))) μ
  | _, _ => False
theorem od_sgIn : OpD K (fun x y H Q => ∃ (c : Nat) (z : Str), x = .str ⟨#[c]⟩ ∧ y = .str z ∧ Q (.bl (decide (c ∈ z.cps.toList))) H) (rSgIn false) := by
  intro O F H μ x y v w q Q hd rx ry t k
  cases x <;> cases y <;> first | exact False.elim t | skip
  obtain ⟨s, rfl, t⟩ := t
  exact ⟨s, _, rx, ry, k F H μ _ _ (Ext.refl F H) hd rep_bl t⟩
theorem od_sgNotIn : OpD K (fun x y H Q => ∃ (c : Nat) (z : Str), x = .str ⟨#[c]⟩ ∧ y = .str z ∧ Q (.bl (!decide (c ∈ z.cps.toList))) H) (rSgIn true) := by
  intro O F H μ x y v w q Q hd rx ry t k
  cases x <;> cases y <;> first | exact False.elim t | skip
  obtain ⟨s, rfl, t⟩ := t
  exact ⟨s, _, rx, ry, k F H μ _ _ (Ext.refl F H) hd rep_bl t⟩
end
end DL

set_option Elab.async false
set_option linter.all false
set_option maxRecDepth 100000
set_option maxHeartbeats 2000000
/-! DLT: [e for x in a if .. for y in b if ..]; the list that grows is a writable -/
namespace DL
open PySem L2
/-- one of two readings -/
def dEi (t u : DTE) : DTE := fun δ μ q => t δ μ q ∨ u δ μ q
theorem de_ei {O : Org} {X : Cx} {e : Expr} {t u : DTE} (h : DE O X e t) (k : DE O X e u) : DE O X e (dEi t u) := ⟨fun pins s σ H Q I ⟨F, δ, μ, q, hd, rs, z, kk⟩ => z.elim (fun z => h.run pins s σ H Q I ⟨F, δ, μ, q, hd, rs, z, kk⟩) fun z => k.run pins s σ H Q I ⟨F, δ, μ, q, hd, rs, z, kk⟩⟩
def dLc2 (ti : DTI) (g : DTG) (tt : DTT) (ti1 : DTI) (g1 : DTG) (tt1 : DTT) (te : DTE) (vs vs1 : List Nat) : DTE := fun δ μ q => ti δ μ fun items keep μ1 => ∀ A, μ1 A = none → ∃ P : Nat → Mu → Prop, P 0 (updM μ1 A (.lst [])) ∧ (∀ i μ, i ≤ items.length → P i μ → keep μ) ∧
  (∀ i d μ, items[i]? = some d → P i μ → g d (wipeD δ vs) μ fun δ2 μ2 => tt δ2 μ2 fun b μ3 => if b = true then ti1 δ2 μ3 fun items1 keep1 μ4 => ∃ P1 : Nat → Mu → Prop, P1 0 μ4 ∧ (∀ j μ, j ≤ items1.length → P1 j μ → keep1 μ) ∧
    (∀ j d1 μ, items1[j]? = some d1 → P1 j μ → g1 d1 (wipeD δ2 vs1) μ fun δ3 μ5 => tt1 δ3 μ5 fun b1 μ6 => if b1 = true then te δ3 μ6 fun y μ7 => ∃ l, μ7 A = some (.lst l) ∧ l.length < sizeLine ∧ P1 (j + 1) (updM μ7 A (.lst (l ++ [y]))) else P1 (j + 1) μ6) ∧
    (∀ μ, P1 items1.length μ → P (i + 1) μ) else P (i + 1) μ3) ∧
  ∀ μ, P items.length μ → ∃ l, μ A = some (.lst l) ∧ (q (.lst l) (delM μ A) ∨ q (.adr A) μ)
section
variable {O : Org} {X : Cx}
theorem llc2 {K : PySem.W.Frag} {ti ti1 : DTI} {g g1 : DTG} {tt tt1 : DTT} {te : DTE} {ws ws1 vs vs1 : List Nat} (hw : ∀ i ∈ ws, i ∈ vs) (hw1 : ∀ i ∈ ws1, i ∈ vs1) : ∀ σ H Q, LE K O (dLc2 ti g tt ti1 g1 tt1 te vs vs1) σ H Q → tLc2 (LI K O ti) (LGw K O ws g) (LT K O tt) (LI K O ti1) (LGw K O ws1 g1) (LT K O tt1) (LE K O te) vs vs1 σ H Q := fun σ H Q ⟨F, δ, μ, q, hd, rs, t, k⟩ =>
  ⟨F, δ, μ, _, hd, rs, t, fun F1 H1 μ1 items keep J e1 hd1 ok t1 => by
    intro A hA
    obtain ⟨P, p0, pk, step, fin⟩ := t1 A (hd1.free hA)
    refine ⟨fun i m H' => m = items.length - i ∧ i ≤ items.length ∧ ∃ F2 μ2, Ext F1 H1 F2 H' ∧ Hd K O F2 H' μ2 ∧ P i μ2, ⟨_, rfl, Nat.zero_le _, F1, _, ext_new hd1 hA, hd1.newM (m := .lst []) hA ⟨[], upd_same, RepL.nil⟩, p0⟩, ?_⟩
    rintro i m H2 ⟨rfl, hi, F2, μ2, e2, hd2, p2⟩
    have kk := pk i μ2 hi p2
    by_cases hlt : i < items.length
    · refine .inr ⟨ok.go i F2 H2 μ2 e2 hd2 kk hlt, fun H' => ∃ F2 μ2, Ext F1 H1 F2 H' ∧ Hd K O F2 H' μ2 ∧ P (i + 1) μ2, fun H' q => ⟨_, by omega, rfl, hlt, q⟩, fun x H3 hy => ?_⟩
      obtain ⟨F3, d, e3, hd3, hd', r3⟩ := ok.yld i F2 H2 μ2 x H3 e2 hd2 kk hlt hy
      have e03 := (e1.trans e2).trans e3
      refine ⟨F3, d, wipeD δ vs, μ2, _, hd3, (rs.wipe vs).ext e03, r3, step i d μ2 hd' p2, fun F4 H4 μ4 δ4 σ4 e4 hd4 rs4 a4 t4 => ⟨(wipe_agr (a4.mono hw)).trans (wipe_wipe σ vs), F4, δ4, μ4, _, hd4, rs4, t4, fun F5 H5 μ5 b e5 hd5 t5 => ?_⟩⟩
      have e25 := ((e2.trans e3).trans e4).trans e5
      cases b with
      | false =>
        rw [if_neg Bool.false_ne_true] at t5
        dsimp only
        rw [if_neg Bool.false_ne_true]
        exact ⟨F5, μ5, e25, hd5, t5⟩
      | true =>
        rw [if_pos rfl] at t5
        dsimp only
        rw [if_pos rfl]
        have rs5 := rs4.ext e5
        refine ⟨F5, δ4, μ5, _, hd5, rs5, t5, fun F6 H6 μ6 items1 keep1 J1 e6 hd6 ok1 ⟨P1, q0, qk, step1, fin1⟩ => ?_⟩
        have e26 := e25.trans e6
        refine ⟨fun j m H' => m = items1.length - j ∧ j ≤ items1.length ∧ ∃ F7 μ7, Ext F6 H6 F7 H' ∧ Hd K O F7 H' μ7 ∧ P1 j μ7, ⟨_, rfl, Nat.zero_le _, F6, μ6, Ext.refl _ _, hd6, q0⟩, ?_⟩
        rintro j m H7 ⟨rfl, hj, F7, μ7, e7, hd7, p7⟩
        have kk1 := qk j μ7 hj p7
        by_cases hlt1 : j < items1.length
        · refine .inr ⟨ok1.go j F7 H7 μ7 e7 hd7 kk1 hlt1, fun H' => ∃ F7 μ7, Ext F6 H6 F7 H' ∧ Hd K O F7 H' μ7 ∧ P1 (j + 1) μ7, fun H' q => ⟨_, by omega, rfl, hlt1, q⟩, fun x1 H8 hy1 => ?_⟩
          obtain ⟨F8, d1, e8, hd8, hd8', r8⟩ := ok1.yld j F7 H7 μ7 x1 H8 e7 hd7 kk1 hlt1 hy1
          have e68 := (e6.trans e7).trans e8
          refine ⟨F8, d1, wipeD δ4 vs1, μ7, _, hd8, (rs5.wipe vs1).ext e68, r8, step1 j d1 μ7 hd8' p7, fun F9 H9 μ9 δ9 σ9 e9 hd9 rs9 a9 t9 => ⟨(wipe_agr (a9.mono hw1)).trans (wipe_wipe σ4 vs1), F9, δ9, μ9, _, hd9, rs9, t9, fun F10 H10 μ10 b1 e10 hd10 t10 => ?_⟩⟩
          have e7a := ((e7.trans e8).trans e9).trans e10
          cases b1 with
          | false =>
            rw [if_neg Bool.false_ne_true] at t10
            dsimp only
            rw [if_neg Bool.false_ne_true]
            exact ⟨F10, μ10, e7a, hd10, t10⟩
          | true =>
            rw [if_pos rfl] at t10
            dsimp only
            rw [if_pos rfl]
            refine ⟨F10, δ9, μ10, _, hd10, rs9.ext e10, t10, fun F11 H11 μ11 y v e11 hd11 r11 ⟨l, hl, hsz, t11⟩ => ?_⟩
            obtain ⟨_, us, g1, g2⟩ := hd11.own A _ hl
            refine ⟨us, g1, by rw [← g2.length]; exact hsz, F11, _, (e7a.trans e11).trans (ext_set hd11 hl), hd11.set (m' := .lst (l ++ [y])) hl ⟨us ++ [v], upd_same, (g2.ext (ext_set hd11 hl)).append (.cons (r11.ext (ext_set hd11 hl)) RepL.nil)⟩, t11⟩
        · have e : j = items1.length := by omega
          subst e
          exact .inl ⟨ok1.stop _ F7 H7 μ7 e7 hd7 kk1 (Nat.le_refl _), F7, μ7, e26.trans e7, hd7, fin1 μ7 p7⟩
    · have e : i = items.length := by omega
      subst e
      obtain ⟨l, hl, qq⟩ := fin μ2 p2
      obtain ⟨_, us, g1, g2⟩ := hd2.own A _ hl
      obtain ⟨z1, z2⟩ := hd2.frz hl
      rcases qq with qq | qq
      · exact .inl ⟨ok.stop _ F2 H2 μ2 e2 hd2 kk (Nat.le_refl _), k (addF F2 A) H2 (delM μ2 A) (.lst l) (.ref A) ((e1.trans e2).trans z2) z1 ⟨A, us, rfl, ⟨.inr rfl, g1⟩, g2.ext z2⟩ qq⟩
      · exact .inl ⟨ok.stop _ F2 H2 μ2 e2 hd2 kk (Nat.le_refl _), k F2 H2 μ2 (.adr A) (.ref A) (e1.trans e2) hd2 rfl qq⟩⟩
theorem de_lc2 {elt tg iter tg1 iter1 : Expr} {ifs ifs1 : List Expr} {scope : Scope} {own : List (Str × Nat)} {vs1 : List Nat} {pos : Pos} {ti ti1 : DTI} {g g1 : DTG} {tt tt1 : DTT} {te : DTE} {ws ws1 : List Nat} (hc : X.calm = true) (hN : X.N.Nodup) (hi : DI O X tg iter ti) (ok : BlkOk X.N X.env.scope scope own) (hv : ∀ i ∈ vs1, i ∈ own.map (·.2)) (hw : ∀ i ∈ ws, i ∈ own.map (·.2)) (hw1 : ∀ i ∈ ws1, i ∈ vs1)
    (hg : ∀ (s : Shared) (H : Hp) (C : Addr) (cl : List (Str × Addr)) (fp : List Addr), DGw O (X.blk s H scope (compEnvC scope cl C X.env) fp) tg ws g) (ht : ∀ (s : Shared) (H : Hp) (C : Addr) (cl : List (Str × Addr)) (fp : List Addr), DTs O (X.blk s H scope (compEnvC scope cl C X.env) fp) ifs tt)
    (hi1 : ∀ (s : Shared) (H : Hp) (C : Addr) (cl : List (Str × Addr)) (fp : List Addr), DI O (X.blk s H scope (compEnvC scope cl C X.env) fp) tg1 iter1 ti1)
    (hg1 : ∀ (s : Shared) (H : Hp) (C : Addr) (cl : List (Str × Addr)) (fp : List Addr), DGw O (X.blk s H scope (compEnvC scope cl C X.env) fp) tg1 ws1 g1) (ht1 : ∀ (s : Shared) (H : Hp) (C : Addr) (cl : List (Str × Addr)) (fp : List Addr), DTs O (X.blk s H scope (compEnvC scope cl C X.env) fp) ifs1 tt1)
    (he : ∀ (s : Shared) (H : Hp) (C : Addr) (cl : List (Str × Addr)) (fp : List Addr), DE O (X.blk s H scope (compEnvC scope cl C X.env) fp) elt te) (hs : ∀ x, foldedSetIterable iter X.env x = pure x := by intro _; rfl) (hs1 : ∀ env x, foldedSetIterable iter1 env x = pure x := by intro _ _; rfl) :
    DE O X (.ListComp elt [⟨tg, iter, ifs, 0⟩, ⟨tg1, iter1, ifs1, 0⟩] scope pos) (dLc2 ti g tt ti1 g1 tt1 te (own.map (·.2)) vs1) := pe_weak (pe_lc2 hc hN hi ok hv hg ht hi1 hg1 ht1 he hs hs1) (llc2 hw hw1)
theorem ds_setLc2 {i : Nat} {y : Str} {py : Pos} {elt tg iter tg1 iter1 : Expr} {ifs ifs1 : List Expr} {scope : Scope} {own : List (Str × Nat)} {vs1 : List Nat} {pos spos : Pos} {ti ti1 : DTI} {g g1 : DTG} {tt tt1 : DTT} {te : DTE} {ws ws1 : List Nat} (hc : X.calm = true) (hN : X.N.Nodup) (hy : X.N[i]? = some y) (hyl : X.env.scope.names.lookup y = some .local)
    (hsw : swapsWith (.ListComp elt [⟨tg, iter, ifs, 0⟩, ⟨tg1, iter1, ifs1, 0⟩] scope pos) (some (.Name y py)) spos.line X.env = pure true) (hi : DI O X tg iter ti) (ok : BlkOk X.N X.env.scope scope own) (hv : ∀ i ∈ vs1, i ∈ own.map (·.2)) (hw : ∀ i ∈ ws, i ∈ own.map (·.2)) (hw1 : ∀ i ∈ ws1, i ∈ vs1)
    (hg : ∀ (s : Shared) (H : Hp) (C : Addr) (cl : List (Str × Addr)) (fp : List Addr), DGw O (X.blk s H scope (compEnvC scope cl C X.env) fp) tg ws g) (ht : ∀ (s : Shared) (H : Hp) (C : Addr) (cl : List (Str × Addr)) (fp : List Addr), DTs O (X.blk s H scope (compEnvC scope cl C X.env) fp) ifs tt)
    (hi1 : ∀ (s : Shared) (H : Hp) (C : Addr) (cl : List (Str × Addr)) (fp : List Addr), DI O (X.blk s H scope (compEnvC scope cl C X.env) fp) tg1 iter1 ti1)
    (hg1 : ∀ (s : Shared) (H : Hp) (C : Addr) (cl : List (Str × Addr)) (fp : List Addr), DGw O (X.blk s H scope (compEnvC scope cl C X.env) fp) tg1 ws1 g1) (ht1 : ∀ (s : Shared) (H : Hp) (C : Addr) (cl : List (Str × Addr)) (fp : List Addr), DTs O (X.blk s H scope (compEnvC scope cl C X.env) fp) ifs1 tt1)
    (he : ∀ (s : Shared) (H : Hp) (C : Addr) (cl : List (Str × Addr)) (fp : List Addr), DE O (X.blk s H scope (compEnvC scope cl C X.env) fp) elt te) (hs : ∀ x, foldedSetIterable iter X.env x = pure x := by intro _; rfl) (hs1 : ∀ env x, foldedSetIterable iter1 env x = pure x := by intro _ _; rfl) :
    DSt O X (.Assign [.Name y py] (.ListComp elt [⟨tg, iter, ifs, 0⟩, ⟨tg1, iter1, ifs1, 0⟩] scope pos) spos) (dAsg (dLc2 ti g tt ti1 g1 tt1 te (own.map (·.2)) vs1) (dgName i)) := ps_weak (ps_setLc2 hc hN hy hyl hsw hi ok hv hg ht hi1 hg1 ht1 he hs hs1) fun Z σ H ⟨F, δ, μ, E, hd, rs, t, L⟩ =>
  llc2 hw hw1 σ H _ ⟨F, δ, μ, _, hd, rs, t, fun F1 H1 μ1 d v e1 hd1 r1 t1 => L.nx F1 H1 μ1 _ _ e1 hd1 ((rs.ext e1).set r1) t1⟩
end
end DL

set_option Elab.async false
set_option linter.all false
set_option maxRecDepth 100000
set_option maxHeartbeats 2000000
/-! DJN: isinstance(x, int); s.join(l) -/
namespace DL
open PySem L2 PySem.Spec PyProof.Rows
def isIntD : D → Option Bool
  | .str _ => some false
  | .int _ => some true
  | .tup _ => some false
  | .non => some false
  | .bl _ => some true
  | _ => none
def rIsIntD : DC2 := fun ds μ q => match ds with
  | [x, .typ t] => t = "int" ∧ ∃ b, isIntD x = some b ∧ q (.bl b) μ
  | _ => False
theorem cd_isInt {K : PySem.W.Frag} : CallD K (rIsi K) rIsIntD := by
  intro O F H μ ds vs q Q hd rs t k
  unfold rIsIntD at t
  split at t
  · rename_i x tn
    obtain ⟨rfl, b, hb, t⟩ := t
    obtain ⟨v, w, rfl, h1, h2⟩ := repL2 rs
    cases (show w = V.ty "int" from h2)
    have done : ∀ tt, TyX K H v tt → PySem.W.kitOne K tt (.type "int") = some b → rIsi K [v, .ty "int"] H Q := fun tt ty e => ⟨v, .ty "int", tt, .type "int", b, rfl, .ty "int", ty, e, k F H μ _ _ (Ext.refl F H) hd rep_bl t⟩
    cases x <;> simp only [isIntD] at hb <;> try cases hb
    · cases (show v = V.non from h1)
      exact done _ (.base .non) (kit_ty (by decide +kernel))
    · rename_i y
      cases (show v = V.bl y from h1)
      exact done _ (.base (.bl y)) (kit_ty (by decide +kernel))
    · rename_i y
      cases (show v = V.int y from h1)
      exact done _ (.base (.int y)) (kit_ty (by decide +kernel))
    · rename_i y
      cases (show v = V.str y from h1)
      exact done _ (.base (.str y)) (kit_ty (by decide +kernel))
    · obtain ⟨a, us, rfl, hz, _⟩ := h1
      have e : PySem.W.kitOne K (.type "tuple") (.type "int") = some false := kit_ty (by decide +kernel)
      rcases hz with ⟨_, hz | ⟨o, hz⟩⟩ | hz
      · exact done _ (.base (.tup hz)) e
      · exact done _ (.fTuple hz) e
      · rcases hz (fun _ => none) with hz | ⟨o, its, n, h3, h4, _⟩
        · rcases hz with hz | ⟨o, hz⟩ <;> cases hz
        · exact done _ (.kTuple h3 h4) e
  · exact t.elim
theorem RepL.strs {K : PySem.W.Frag} {F : Zo} {H : Hp} : ∀ {ns : List Str} {vs : List V}, RepL K F H (ns.map D.str) vs → vs = ns.map V.str
  | [], _, h => h
  | n :: ns, _, ⟨v, r, h1, h2, h3⟩ => by
    have h2 : v = V.str n := h2
    subst h1 h2
    rw [RepL.strs h3]; rfl
/-- s.join(l), l a list of texts -/
def dJoin (to te : DTE) : DTE := fun δ μ q => to δ μ fun x μ1 => match x with
  | .str a => te δ μ1 fun y μ2 => ∃ ys : List Str, lstOf μ2 y = some (ys.map D.str) ∧ (ys.map (·.length)).sum + ys.length * a.length ≤ 16777216 ∧ q (.str (Txt.join a ys)) μ2
  | _ => False
theorem de_join {O : Org} {X : Cx} {o e : Expr} {to te : DTE} {apos pos : Pos} (ho : DE O X o to) (he : DE O X e te) (hs : starEach [e] X.env = [(false, eval e X.env)] := by rfl) (hbase : attributeBase o "join" X.env (eval o X.env) = eval o X.env := by rfl) (hline : (apos.endLine == pos.line) = true := by rfl) :
    DE O X (.Call (.Attribute o "join" apos) [e] [] pos) (dJoin to te) :=
  pe_weak (pe_join ho he hs hbase hline) fun σ H Q ⟨F, δ, μ, q, hd, rs, t, k⟩ => ⟨F, δ, μ, _, hd, rs, t, fun F1 H1 μ1 x v e1 hd1 r1 t1 => by
    cases x <;> first | exact False.elim t1 | skip
    rename_i a
    obtain rfl : v = .str a := r1
    refine ⟨⟨a, rfl⟩, F1, δ, μ1, _, hd1, rs.ext e1, t1, fun F2 H2 μ2 y u e2 hd2 r2 ⟨ys, hl, hz, t2⟩ => ?_⟩
    obtain ⟨p, vs, rfl, g1, g2⟩ := list_sq hd2 r2 hl
    obtain rfl := g2.strs
    exact ⟨a, p, ys, rfl, rfl, .inl g1, hz, k F2 H2 μ2 (.str (Txt.join a ys)) _ (e1.trans e2) hd2 rfl t2⟩⟩
end DL

set_option Elab.async false
set_option linter.all false
set_option maxRecDepth 100000
set_option maxHeartbeats 2000000
/-! DKM: C(k = v, ..) and o.m(k = v, ..), by keywords alone -/
namespace DL
open PySem L2 PySem.Spec PyProof.Rows
structure ImK (P : Program) (w : World) (K : PySem.W.Frag) (mg : Str → Option Value) (base : Heap) (x : Str) (C : Addr) (k : Nat) (ps : List Str) (c : DSp) (ks : List Str) (perm : List Nat) (dds : List D) : Prop where
  ex : ∃ (f : Addr) (fd : FuncData) (its : List Value) (dvs : List V), FnG P w K mg base k f fd ps (LSp K c) ∧ Mk K C f ∧ mg x = some (.ref C) ∧ KwX K fd ps ks 1 perm its ∧ Vals dvs its ∧ ∀ F H, RepL K F H dds dvs
structure MmK (P : Program) (w : World) (K : PySem.W.Frag) (mg : Str → Option Value) (base : Heap) (C : Addr) (m : Str) (k : Nat) (ps : List Str) (c : DSp) (ks : List Str) (perm : List Nat) (dds : List D) : Prop where
  ex : ∃ (f : Addr) (fd : FuncData) (its : List Value) (dvs : List V), Meth K C m f ∧ FnG P w K mg base k f fd ps (LSp K c) ∧ KwX K fd ps ks 1 perm its ∧ Vals dvs its ∧ ∀ F H, RepL K F H dds dvs
def tMakeGK (C : Addr) (sp : Sp) (m : Nat) (perm : List Nat) (dvs : List V) (E : XK) (tk : TA) : TE := fun σ H Q => tk σ H fun zs H1 => zs.length = m ∧ ∀ x dx, H1 x = none → H1 dx = none → dx ≠ x → sp (.ref x :: pick perm (zs ++ dvs)) (upd (upd H1 dx (.own x)) x (.ins C dx [])) (fun v H2 => v = .non ∧ Q (.ref x) H2) E
def dMakeK (C : Addr) (c : DSp) (e : DX) (m : Nat) (perm : List Nat) (dds : List D) (tk : DTA) : DTE := fun δ μ q => tk δ μ fun zs μ1 => zs.length = m ∧ ∀ p, μ1 p = none → c (.adr p :: pick perm (zs ++ dds)) (updM μ1 p (.obj C [] [])) (fun d μ2 => d = .non ∧ ∃ ns l, μ2 p = some (.obj C ns l) ∧ q (.ins C ns l) (delM μ2 p)) e
section
variable {O : Org} {X : Cx} {k m : Nat} {f C : Addr} {fd : FuncData} {ps ks : List Str} {sp : Sp} {dvs : List V} {its : List Value} {E : XK} {x mn : Str} {p pos apos : Pos} {o : Expr} {kws : List Keyword} {tk : DTA} {c : DSp} {e : DX} {dds : List D} {perm : List Nat}
theorem pe_makeGK {tk : TA} (M : Mk X.K C f) (F : FnG X.prog X.w X.K X.mg X.base k f fd ps sp) (hr : Room (k + 1) X.A) (hgd : X.A.guards = some []) (hg : Gl X x) (hm : X.mg x = some (.ref C)) (hb : KwX X.K fd ps ks 1 perm its) (hv : Vals dvs its) (hx : Passes (L2N.CX X.prog X.w) X E)
    (hkw : PK X kws tk) (hall : (backToKw pos (keywordEach kws X.env)).all (·.1.isSome) = true) (hks : (backToKw pos (keywordEach kws X.env)).filterMap (·.1) = ks)
    (hdb : (x == ("__debug__" : Str)) = false) (hpl : ((backTo pos (starEach [] X.env)).any (·.1) || (backToKw pos (keywordEach kws X.env)).any (·.1.isNone)) = false) :
    PE X (.Call (.Name x p) [] kws pos) (tMakeGK C sp ks.length perm dvs E tk) := by
  constructor
  intro pins s σ H Q I h
  refine wpAny_Call_Name_kw (ld_glob I hg hm ?_ hdb)
  refine PySem.W.callWith_KW0 (h₀ := X.base) I.ok.mod.kin M.kp hall ?_ hpl
  refine thn (hkw.run pos pins s σ H _ I h) ?_
  rintro ws s1 ⟨zs, H1, I1, rz, l2, q⟩
  refine ⟨I1.kIn, ?_⟩
  rw [hks]
  have hq := q (s1.heap.objs.size + 1) s1.heap.objs.size (I1.hok.fresh (Nat.le_succ _)) (I1.hok.fresh (Nat.le_refl _)) (Nat.ne_of_lt (Nat.lt_succ_self _))
  have I2 := Inv.made (C := C) I1
  have r2 : Vals (V.ref (s1.heap.objs.size + 1) :: pick perm (zs ++ dvs)) (Value.ref (s1.heap.objs.size + 1) :: pick perm (ws ++ its)) := .cons rfl (vals_pick (rz.append hv) perm)
  refine wpAny_call (make_map (f := f) I1.kIn M.makes M.init (beq_iff_eq.mp M.fn) (codeAny_mono (F.run _ X.stack _ _ ⟨[Value.ref (s1.heap.objs.size + 1)], ks.zip ws⟩ _ _ _ E (hr.make C [] (ks.zip ws)) (make_guards hgd)
    (I2.env0.make C [] (ks.zip ws)) (hb.to _ [Value.ref (s1.heap.objs.size + 1)] ws I2.kIn rfl (rz.length.symm.trans l2)) r2 hq) ?_))
  intro res s2 end2
  match res, end2 with
  | .error e, end2 => exact hx pins σ _ _ e s2 I2 end2
  | .ok (.ret u), end2 =>
    obtain ⟨v, H', I3, rv, ev, q3⟩ := I2.after end2
    subst ev
    exact ⟨rv, ⟨V.ref (s1.heap.objs.size + 1), H', I3, rfl, q3⟩⟩
theorem lmakeK {K : PySem.W.Frag} (hdd : ∀ F H, RepL K F H dds dvs) : ∀ σ H Q, LE K O (dMakeK C c e m perm dds tk) σ H Q → tMakeGK C (LSp K c) m perm dvs (LX K O e) (LA K O tk) σ H Q := fun σ H Q ⟨F, δ, μ, q, hd, rs, t, k⟩ =>
  ⟨F, δ, μ, _, hd, rs, t, fun F1 H1 μ1 zs vs e1 hd1 r1 ⟨l1, t1⟩ => ⟨by rw [← r1.length]; exact l1, fun x dx hx hdx hne => by
    have hx' : upd H1 dx (.own x) x = none := by rw [upd_ne (Ne.symm hne)]; exact hx
    have h2 := hd1.lay (o := .own x) hdx
    have x2 := ext_new (o := HO.own x) hd1 hdx
    have h3 := h2.newM (o := .ins C dx []) (m := .obj C [] []) hx' ⟨dx, [], upd_same, rfl, RepL.nil⟩
    have x3 := ext_new (o := HO.ins C dx []) h2 hx'
    refine ⟨F1, _, .adr x :: pick perm (zs ++ dds), _, e, h3.here, .cons rfl (repL_pick (((r1.ext x2).ext x3).append (hdd F1 _)) perm), t1 x (hd1.free hx), fun F4 H4 μ4 d v hd4 r4 q4 => ?_, fun cls dd H' ⟨C, b, v, d, F', μ', h1, h2', h3', h4, h5, h6⟩ => ⟨C, b, v, d, F', μ', h1, h2', h3', (h3.back h4).1, h5, h6⟩⟩
    obtain ⟨rfl, ns, l, hm, q4⟩ := q4
    obtain rfl : v = .non := r4
    obtain ⟨p1, p2⟩ := h3.back hd4
    obtain ⟨_, dx', vs', w1, w2, w3⟩ := p1.own x _ hm
    obtain ⟨z1, z2⟩ := p1.frz hm
    exact ⟨rfl, k _ H4 _ (.ins C ns l) (.ref x) ((((e1.trans x2).trans x3).trans p2).trans z2) z1 ⟨x, dx', vs', rfl, ⟨.inr rfl, w1⟩, w2, w3.ext z2⟩ q4⟩⟩⟩
theorem de_makeK (h : ImK X.prog X.w X.K X.mg X.base x C k ps c ks perm dds) (hr : Room (k + 1) X.A) (hgd : X.A.guards = some []) (hx : Passes (L2N.CX X.prog X.w) X (LX X.K O e)) (hg : Gl X x) (hkw : DKw O X kws tk) (hdb : (x == ("__debug__" : Str)) = false := by decide)
    (hall : (backToKw pos (keywordEach kws X.env)).all (·.1.isSome) = true := by rfl) (hks : (backToKw pos (keywordEach kws X.env)).filterMap (·.1) = ks := by rfl)
    (hpl : ((backTo pos (starEach [] X.env)).any (·.1) || (backToKw pos (keywordEach kws X.env)).any (·.1.isNone)) = false := by rfl) (hml : m = ks.length := by rfl) : DE O X (.Call (.Name x p) [] kws pos) (dMakeK C c e m perm dds tk) := by
  subst hml
  obtain ⟨f, fd, its, dvs, F, M, hm, hb, hv, hdd⟩ := h.ex
  exact pe_weak (pe_makeGK M F hr hgd hg hm hb hv hx hkw hall hks hdb hpl) (lmakeK hdd)
/-- o.m(k = v, ..) -/
def dMethK (C : Addr) (mn : Str) (c : DSp) (e : DX) (m : Nat) (perm : List Nat) (dds : List D) (te : DTE) (tk : DTA) : DTE := fun δ μ q => te δ μ fun x μ1 => noFld C mn μ1 x ∧ tk δ μ1 fun zs μ2 => zs.length = m ∧ c (x :: pick perm (zs ++ dds)) μ2 q e
def tMethGK (C : Addr) (mn : Str) (sp : Sp) (m : Nat) (perm : List Nat) (dvs : List V) (E : XK) (ta : TE) (tk : TA) : TE := fun σ H Q => ta σ H fun x H1 => ∃ a dx fs, x = .ref a ∧ H1 a = some (.ins C dx fs) ∧ fs.lookup mn = none ∧ tk σ H1 fun zs H2 => zs.length = m ∧ sp (.ref a :: pick perm (zs ++ dvs)) H2 Q E
theorem pe_methGK {pl : Sem Bool} {ta : TE} {tk : TA} (he : PE X o ta) (cc : Cls X.K C) (hm : Meth X.K C mn f) (F : FnG X.prog X.w X.K X.mg X.base k f fd ps sp) (hr : Room k X.A) (hgd : X.A.guards = some []) (hb : KwX X.K fd ps ks 1 perm its) (hv : Vals dvs its) (hx : Passes (L2N.CX X.prog X.w) X E) (hkw : PK X kws tk)
    (hall : (backToKw pos (keywordEach kws X.env)).all (·.1.isSome) = true) (hks : (backToKw pos (keywordEach kws X.env)).filterMap (·.1) = ks)
    (hpl : ((backTo pos (starEach [] X.env)).any (·.1) || (backToKw pos (keywordEach kws X.env)).any (·.1.isNone)) = false)
    (ht : eval (.Call (.Attribute o mn apos) [] kws pos) X.env = (do
      let ov ← eval o X.env
      standAt apos.atName
      let (f, first) ← holding [ov] (getMethod ov mn pl)
      callWith pos f first (backTo pos (starEach [] X.env)) (backToKw pos (keywordEach kws X.env)))) :
    PE X (.Call (.Attribute o mn apos) [] kws pos) (tMethGK C mn sp ks.length perm dvs E ta tk) := by
  constructor
  intro pins s σ H Q I h
  refine PySem.W.methodCall_KW (pl := pl) (thn (he.run pins s σ H _ I h) ?_) ht
  rintro u s1 ⟨x, H1, I1, rx, a0, dx, fs, ex, ea, l, q⟩
  subst ex
  obtain rfl : u = Value.ref a0 := rx
  refine getmeth_ok I1 ea cc hm l ?_
  refine PySem.W.callWith_KW0 (first := [.ref a0]) (h₀ := X.base) I.ok.mod.kin hm.kp hall ?_ hpl
  refine thn (hkw.run pos pins s1 σ H1 _ I1 q) ?_
  rintro ws s2 ⟨zs, H2, I2, rz, l2, q2⟩
  refine ⟨I2.kIn, ?_⟩
  rw [hks]
  exact run_fnGX (us := [.ref a0]) (vs := [.ref a0]) F hr hgd hb hv hx I2 (.cons rfl .nil) rz rfl l2 q2
theorem de_methK {pl : Sem Bool} (h : MmK X.prog X.w X.K X.mg X.base C mn k ps c ks perm dds) (cc : Cls X.K C) (hr : Room k X.A) (hgd : X.A.guards = some []) (hx : Passes (L2N.CX X.prog X.w) X (LX X.K O e)) {te : DTE} (he : DE O X o te) (hkw : DKw O X kws tk)
    (hall : (backToKw pos (keywordEach kws X.env)).all (·.1.isSome) = true := by rfl) (hks : (backToKw pos (keywordEach kws X.env)).filterMap (·.1) = ks := by rfl)
    (hpl : ((backTo pos (starEach [] X.env)).any (·.1) || (backToKw pos (keywordEach kws X.env)).any (·.1.isNone)) = false := by rfl)
    (ht : eval (.Call (.Attribute o mn apos) [] kws pos) X.env = (do
      let ov ← eval o X.env
      standAt apos.atName
      let (f, first) ← holding [ov] (getMethod ov mn pl)
      callWith pos f first (backTo pos (starEach [] X.env)) (backToKw pos (keywordEach kws X.env))) := by rfl) (hml : m = ks.length := by rfl) :
    DE O X (.Call (.Attribute o mn apos) [] kws pos) (dMethK C mn c e m perm dds te tk) := by
  subst hml
  obtain ⟨f, fd, its, dvs, hm, F, hb, hv, hdd⟩ := h.ex
  exact pe_weak (pe_methGK he cc hm F hr hgd hb hv hx hkw hall hks hpl ht) fun σ H Q ⟨F, δ, μ, q, hd, rs, t, k⟩ => ⟨F, δ, μ, _, hd, rs, t, fun F1 H1 μ1 x v e1 hd1 r1 ⟨ho, t1⟩ => by
    obtain ⟨a0, dx, fs, rfl, h1, hn⟩ := obj_no hd1 r1 ho
    refine ⟨a0, dx, fs, rfl, h1, hn, F1, δ, μ1, _, hd1, rs.ext e1, t1, fun F2 H2 μ2 zs vs e2 hd2 r2 ⟨l1, t2⟩ => ⟨by rw [← r2.length]; exact l1, F2, μ2, x :: pick perm (zs ++ dds), q, e, hd2.here, .cons (r1.ext e2) (repL_pick (r2.append (hdd F2 H2)) perm), t2, fun F3 H3 μ3 d v hd3 r3 q3 => ?_, fun cls dd H' ⟨C, b, v, d, F', μ', h1, h2, h3, h4, h5, h6⟩ => ⟨C, b, v, d, F', μ', h1, h2, h3, (hd2.back h4).1, h5, h6⟩⟩⟩
    obtain ⟨p1, p2⟩ := hd2.back hd3
    exact k F3 H3 μ3 d v ((e1.trans e2).trans p2) p1 r3 q3⟩
end
end DL

set_option Elab.async false
set_option linter.all false
set_option maxRecDepth 100000
set_option maxHeartbeats 1000000
namespace L2
open PySem PySem.Spec PyProof.Rows
section
variable {prog : Program} {w : World} {A : Around} {E : Value → Shared → Prop} {s : Shared} {K : PySem.W.Frag} {x C f : Addr} {ox : Obj} {od : Option Obj} {b tb : Value}
theorem ne_To {Q : Value → Shared → Prop} (hu : A.units + 1 < cLine) (X : K.In s.heap) (I : PySem.W.InstAt s.heap x ox C od) (hb : PySem.W.Looks (model prog w) s.heap (typeOf b) tb) (hnf : PySem.W.notFirst K C tb = true)
    (hn : PySem.W.findIn K (.ref C) "__ne__" = some (some (.builtin "object.__ne__"))) (hm : PySem.W.mroIn K C (.type "object") = some true) (he : PySem.W.findIn K (.ref C) "__eq__" = some (some (.ref f))) (hf : PySem.W.isFn K (.ref f) = true)
    (h : wpAny (model prog w) A.in1 (call (.ref f) [.ref x, b]) (fun v s' => ∃ r, v = .bool r ∧ Q (.bool (!r)) s') E s) : wpAny (model prog w) A (richCompare .NotEq (.ref x) b) Q E s := by
  have hi : PySem.W.Looks (model prog w) s.heap (isInstance (.ref x) (.type "object")) true := I.type.andThen (PySem.W.looks_mroIn X hm)
  have body : ∀ {Q' : Fin → Shared → Prop}, (∀ r s', Q (.bool (!r)) s' → Q' (.done (.ret (.bool (!r)))) s') → wpAny (model prog w) A.in1 (Builtin.«object.__ne__» ⟨[.ref x, b], []⟩) Q' E s := fun {Q'} k => by
    unfold Builtin.«object.__ne__»
    repeat (first
      | with_reducible refine wpAny_cRoomFor (show A.in1.units < cLine from hu) ?_
      | (refine wpAny_bind (m := callSpecialIfBound? (.ref x) (Str.ofString "__eq__") [b])
          (PySem.W.ifBound_K X I he hf (wpAny_mono h (fun r s' hr => by
            obtain ⟨b, rfl, hq⟩ := hr
            have hq := k b s' hq
            repeat (first | exact hq | exact wpAny_pure hq | exact wpAny_truthy_bool hq | (refine wpAny_bind (m := truthy (.bool _)) (wpAny_truthy_bool ?_)) | wp_step)) fun _ _ e => e)))
      | wp_step)
  have one : wpAny (model prog w) A (tryCompare (.ref x) "__ne__" b) (fun r s' => ∃ v, r = some v ∧ Q v s') E s := by
    unfold tryCompare
    refine wpAny_bind ?_
    simp only [callSpecialIfBound?, bindSpecialIfBound?]
    refine wpAny_holding (wpAny_bind (wpAny_bind (wpAny_bind (I.type.here ((PySem.W.looks_findIn X hn).here ?_)))))
    simp only [F.cmp_object.ne.bind]
    refine wpAny_bind (wpAny_askSetting (wpAny_ite ?_))
    have fin : ∀ {Qx : Option Value → Shared → Prop}, (∀ r s', Q (.bool (!r)) s' → Qx (some (.bool (!r))) s') → wpAny (model prog w) A (call (.builtin "object.__ne__") ([.ref x] ++ [b]) >>= fun v => pure (some v)) Qx E s := fun {Qx} k => by
      refine wpAny_bind (wpAny_call (codeAny_call_builtin F.cmp_object.ne.plain F.cmpEntry_ne (PySem.W.check_slot F.cmpKind_ne F.cmpSplit_ne hi (F.cmpArgs_ne _ _) (body fun r s' q => ?_))))
      exact wpAny_pure (k r s' q)
    split
    · exact wpAny_bind (wpAny_pure (wpAny_pure (fin fun r s' q => wpAny_pure ⟨_, rfl, q⟩)))
    · exact wpAny_tryCatch (wpAny_bind (wpAny_pure (wpAny_pure (fin fun r s' q => wpAny_pure ⟨_, rfl, q⟩))))
  unfold richCompare
  simp only [oneThing_ref]
  refine wpAny_holding (wpAny_bind (wpAny_cRoomFor (Nat.lt_of_succ_lt hu) ?_))
  rw [cmpInfo_NotEq]
  dsimp only
  refine wpAny_bind (I.type.here (wpAny_bind (hb.here ?_)))
  have last : ∀ {g : Option Value → Sem Value}, (∀ v, g (some v) = pure v) → wpAny (model prog w) A (tryCompare (.ref x) "__ne__" b >>= g) Q E s := fun {g} hg => by
    refine wpAny_bind (wpAny_mono one (fun r s' z => ?_) fun _ _ e => e)
    obtain ⟨v, rfl, hq⟩ := z
    rw [hg]
    exact wpAny_pure hq
  by_cases z : tb = .ref C
  · subst z; rw [show (Value.ref C != Value.ref C) = false from by simp]
    simp only [Bool.false_eq_true, if_false]
    refine wpAny_bind (wpAny_pure ?_)
    simp only [Bool.false_eq_true, if_false]
    exact last fun v => rfl
  · have e : PySem.W.subIn K tb (.ref C) = some false := by
      unfold PySem.W.notFirst at hnf
      simpa [z] using hnf
    rw [show (Value.ref C != tb) = true from by simpa using Ne.symm z]
    simp only [if_true]
    refine wpAny_bind ((PySem.W.looks_subIn X e).here ?_)
    simp only [Bool.false_eq_true, if_false]
    exact last fun v => rfl
end
end L2
namespace DL
open PySem L2 PySem.Spec PyProof.Rows
section
variable {X : Cx} {k : Nat} {C : Addr} {ps : List Str} {c : DSp}
/-- the class of a plain value, as the heap shows it -/
theorem looks_ty {pins : List (Addr × Obj)} {σ : L2.St} {H : Hp} {s : Shared} {x : V} {u t : Value} (I : Inv X pins σ H s) (rx : RelV x u) (ty : TyOf X.K H x t) : PySem.W.Looks (model X.prog X.w) s.heap (typeOf u) t := by
  cases ty with
  | non => cases (show u = Value.none from rx); exact PySem.W.Looks.now
  | bl y => cases (show u = Value.bool y from rx); exact PySem.W.Looks.now
  | int i => obtain ⟨t, q⟩ := (show ∃ t, u = Value.int i t from rx); cases q; exact PySem.W.Looks.now
  | str y => obtain ⟨t, q⟩ := (show ∃ t, u = Value.str y t from rx); cases q; exact PySem.W.Looks.now
  | flt y => obtain ⟨t, q⟩ := (show ∃ t, u = Value.float y t from rx); cases q; exact PySem.W.Looks.now
  | @lst a xs ea =>
    cases (show u = Value.ref a from rx)
    obtain ⟨_, _, n, _, h1⟩ := (show ObjOk X.prog X.w H s.heap a (.lst xs) from I.hok a _ ea)
    exact (PySem.W.Looks.ld h1).andThen PySem.W.Looks.now
  | @frz a ob xs ea =>
    cases (show u = Value.ref a from rx)
    obtain ⟨_, _, _, n, _, h1⟩ := (show ObjOk X.prog X.w H s.heap a (.frz ob (.lst xs)) from I.hok a _ ea)
    exact (PySem.W.Looks.ld h1).andThen PySem.W.Looks.now
  | @tup a xs ea =>
    cases (show u = Value.ref a from rx)
    obtain ⟨_, _, _, o, h1, h2, _⟩ := (show ObjOk X.prog X.w H s.heap a (.tup xs) from I.hok a _ ea)
    exact h2 ▸ (PySem.W.Looks.ld h1).andThen PySem.W.Looks.now
  | @dK a kvs ea =>
    cases (show u = Value.ref a from rx)
    obtain ⟨_, _, vs, _, o, es, ep, h1, h2, _⟩ := (show ObjOk X.prog X.w H s.heap a (.dK kvs) from I.hok a _ ea)
    exact h2.1 ▸ (PySem.W.Looks.ld h1).andThen PySem.W.Looks.now
  | @dT a kvs ea =>
    cases (show u = Value.ref a from rx)
    obtain ⟨_, _, xs, _, o, es, ep, h1, h2, _⟩ := (show ObjOk X.prog X.w H s.heap a (.dT kvs) from I.hok a _ ea)
    exact h2.1 ▸ (PySem.W.Looks.ld h1).andThen PySem.W.Looks.now
  | @ins a C dx fs ea cl ha hn htk hm =>
    cases (show u = Value.ref a from rx)
    obtain ⟨mA, J, _⟩ := ins_get I.hok ea
    obtain ⟨od, J, _⟩ := J.look
    exact J.type
theorem looks_tyX {pins : List (Addr × Obj)} {σ : L2.St} {H : Hp} {s : Shared} {x : V} {u t : Value} (I : Inv X pins σ H s) (rx : RelV x u) (ty : TyX X.K H x t) : PySem.W.Looks (model X.prog X.w) s.heap (typeOf u) t := by
  cases ty with
  | base h => exact looks_ty I rx h
  | byt y => obtain ⟨t, q⟩ := (show ∃ t, u = Value.bytes y t from rx); cases q; exact PySem.W.Looks.now
  | @set a S n ea =>
    cases (show u = Value.ref a from rx)
    obtain ⟨o, _, _, _, e, ex, _⟩ := I.hok a _ ea
    exact ex.1 ▸ (PySem.W.Looks.ld e).andThen PySem.W.Looks.now
  | @kList a o e c =>
    cases (show u = Value.ref a from rx)
    exact c ▸ (PySem.W.Looks.ld (I.kIn a o e)).andThen PySem.W.Looks.now
  | @kTuple a o e c =>
    cases (show u = Value.ref a from rx)
    exact c ▸ (PySem.W.Looks.ld (I.kIn a o e)).andThen PySem.W.Looks.now
  | @kDict a o e c =>
    cases (show u = Value.ref a from rx)
    exact c ▸ (PySem.W.Looks.ld (I.kIn a o e)).andThen PySem.W.Looks.now
  | @fTuple a ob xs ea =>
    cases (show u = Value.ref a from rx)
    obtain ⟨_, _, _, _, o, h1, h2, _⟩ := (show ObjOk X.prog X.w H s.heap a (.frz ob (.tup xs)) from I.hok a _ ea)
    exact h2 ▸ (PySem.W.Looks.ld h1).andThen PySem.W.Looks.now
  | @fDict a ob kvs ea =>
    cases (show u = Value.ref a from rx)
    obtain ⟨_, _, _, vs, _, o, es, ep, h1, h2, _⟩ := (show ObjOk X.prog X.w H s.heap a (.frz ob (.dK kvs)) from I.hok a _ ea)
    exact h2.1 ▸ (PySem.W.Looks.ld h1).andThen PySem.W.Looks.now
/-- a value of a class that is known: plain, or an own instance -/
def TyE (K : PySem.W.Frag) (H : Hp) (y : V) (t : Value) : Prop := TyX K H y t ∨ ∃ b C dx fs, y = .ref b ∧ H b = some (.ins C dx fs) ∧ t = .ref C
theorem looks_tyE {pins : List (Addr × Obj)} {σ : L2.St} {H : Hp} {s : Shared} {x : V} {u t : Value} (I : Inv X pins σ H s) (rx : RelV x u) (ty : TyE X.K H x t) : PySem.W.Looks (model X.prog X.w) s.heap (typeOf u) t := by
  rcases ty with ty | ⟨b, C, dx, fs, rfl, hb, rfl⟩
  · exact looks_tyX I rx ty
  · cases (show u = Value.ref b from rx)
    obtain ⟨mA, J, _⟩ := ins_get I.hok hb
    obtain ⟨od, J, _⟩ := J.look
    exact J.type
/-- x == y by an own __eq__, y anything of a known class -/
def rEqTo (K : PySem.W.Frag) (C : Addr) (c : DSp) (g : Bool → Bool) : R2 := fun x y H Q => ∃ a dx fs t, x = .ref a ∧ H a = some (.ins C dx fs) ∧ TyE K H y t ∧ PySem.W.notFirst K C t = true ∧ LSp K c [.ref a, y] H (fun v H' => ∃ r, v = .bl r ∧ Q (.bl (g r)) H') fun _ _ _ => False
theorem run_eqTo {A : Around} {pins : List (Addr × Obj)} {σ : L2.St} {H : Hp} {s : Shared} {a : Addr} {y : V} {u : Value} {Q : Bool → Hp → Prop} {f : Addr} {fd : FuncData} (F : FnG X.prog X.w X.K X.mg X.base k f fd ps (LSp X.K c)) (hb : Binds X.K fd ps []) (hr : Room k A) (hgd : A.guards = some []) (e0 : Env0 X.prog X.w X.K X.mg X.base A X.stack s H)
    (I : Inv X pins σ H s) (ry : RelV y u) (q : LSp X.K c [.ref a, y] H (fun v H' => ∃ r, v = .bl r ∧ Q r H') fun _ _ _ => False) {E' : Value → Shared → Prop} :
    wpAny (model X.prog X.w) A (call (.ref f) [.ref a, u]) (fun v s' => ∃ r H', v = .bool r ∧ Inv X pins σ H' s' ∧ Q r H') E' s := by
  have hl : ([Value.ref a, u] ++ []).length = ps.length := F.len _ _ _ _ q
  refine wpAny_call (codeAny_mono (F.run A X.stack s H ⟨[.ref a, u], []⟩ [.ref a, u] [.ref a, y] _ _ hr hgd e0 (hb _ [.ref a, u] I.kIn hl) (.cons rfl (.cons ry .nil)) q) ?_)
  intro res s2 end2
  match res, end2 with
  | .error er, end2 =>
    obtain ⟨a, B, H', cls, d, _, _, _, _, _, _, _, z⟩ := end2
    exact z.elim
  | .ok (.ret u), end2 =>
    obtain ⟨v, H', I3, rv, r, rfl, q3⟩ := I.after end2
    cases (show u = Value.bool r from rv)
    exact ⟨r, H', rfl, I3, q3⟩
theorem op_eqTo (h : Mm X.prog X.w X.K X.mg X.base C "__eq__" k ps c) (hr : Room (k + 1) X.A) (hgd : X.A.guards = some []) : OpR X (compareOp .Eq) (rEqTo X.K C c id) := by
  intro pins s σ H x y v u Q I rx ry hq
  obtain ⟨f, fd, hm, F, hb⟩ := h.ex
  obtain ⟨a, dx, fs, t, rfl, ha, ty, hn, q⟩ := hq
  cases rx
  obtain ⟨mA, J, _⟩ := ins_get I.hok ha
  obtain ⟨od, J, _⟩ := J.look
  obtain ⟨m, hF⟩ := I.fr
  have lt := looks_tyE I ry ty
  show wpAny (model X.prog X.w) X.A (richCompare .Eq (.ref a) u) (EP X pins σ Q) X.xe s
  refine PySem.W.cmp_K (op := .Eq) (tb := t) hr.units0 hF I.ok.mod.kin J lt hn hm.at_ hm.fn ?_
  refine wpAny_mono (run_eqTo F hb (hr.mono (Nat.le_succ k)) hgd I.env0 I ry q) (fun v s' hv => ?_) fun _ _ e => e
  obtain ⟨r, H', rfl, I3, q3⟩ := hv
  exact ⟨.bl r, H', I3, rfl, q3⟩
theorem op_neTo (n : NeOk X.K C) (h : Mm X.prog X.w X.K X.mg X.base C "__eq__" k ps c) (hr : Room (k + 1) X.A) (hgd : X.A.guards = some []) : OpR X (compareOp .NotEq) (rEqTo X.K C c not) := by
  intro pins s σ H x y v u Q I rx ry hq
  obtain ⟨f, fd, hm, F, hb⟩ := h.ex
  obtain ⟨a, dx, fs, t, rfl, ha, ty, hn, q⟩ := hq
  cases rx
  obtain ⟨mA, J, _⟩ := ins_get I.hok ha
  obtain ⟨od, J, _⟩ := J.look
  have lt := looks_tyE I ry ty
  show wpAny (model X.prog X.w) X.A (richCompare .NotEq (.ref a) u) (EP X pins σ Q) X.xe s
  refine ne_To (by have := hr.un; omega) I.kIn J lt hn n.ne n.ob hm.at_ hm.fn ?_
  refine wpAny_mono (run_eqTo (A := X.A.in1) F hb hr.in1 hgd I.env0.in1 I ry q) (fun v s' hv => ?_) fun _ _ e => e
  obtain ⟨r, H', rfl, I3, q3⟩ := hv
  exact ⟨r, rfl, .bl (!r), H', I3, rfl, q3⟩
/-- the built-in class of a plain datum -/
def tyD : D → Option String
  | .int _ => some "int"
  | .str _ => some "str"
  | .non => some "NoneType"
  | .bl _ => some "bool"
  | .tup _ => some "tuple"
  | .lst _ => some "list"
  | _ => none
theorem nf_ty {K : PySem.W.Frag} {C : Addr} {d : D} {T : String} (h : tyD d = some T) : PySem.W.notFirst K C (.type T) = true := by
  cases d <;> simp only [tyD] at h <;> cases h <;> rfl
theorem ty_of {K : PySem.W.Frag} {F : Zo} {H : Hp} {d : D} {v : V} {T : String} (h : tyD d = some T) (r : Rep K F H d v) : TyE K H v (.type T) := by
  cases d <;> simp only [tyD] at h <;> cases h
  · cases (show v = V.non from r)
    exact .inl (.base .non)
  · rename_i y
    cases (show v = V.bl y from r)
    exact .inl (.base (.bl y))
  · rename_i y
    cases (show v = V.int y from r)
    exact .inl (.base (.int y))
  · rename_i y
    cases (show v = V.str y from r)
    exact .inl (.base (.str y))
  · obtain ⟨a, us, rfl, hz, _⟩ := r
    rcases hz with ⟨_, hz | ⟨o, hz⟩⟩ | hz
    · exact .inl (.base (.tup hz))
    · exact .inl (.fTuple hz)
    · rcases hz (fun _ => none) with hz | ⟨o, its, n, h3, h4, _⟩
      · rcases hz with hz | ⟨o, hz⟩ <;> cases hz
      · exact .inl (.kTuple h3 h4)
  · obtain ⟨a, us, rfl, ⟨_, hz⟩, _⟩ := r
    exact .inl (.base (.lst hz))
def rEqAny (C : Addr) (c : DSp) (g : Bool → Bool) : DR2 := fun x y μ q => match x with
  | .ins C1 n1 l1 => C1 = C ∧ ((∃ n2 l2, y = .ins C n2 l2) ∨ ∃ T, tyD y = some T) ∧ c [.ins C1 n1 l1, y] μ (fun d μ' => ∃ r, d = .bl r ∧ q (.bl (g r)) μ') eN
  | _ => False
theorem od_eqAny {K : PySem.W.Frag} {g : Bool → Bool} : OpD K (rEqTo K C c g) (rEqAny C c g) := by
  intro O F H μ x y v w q Q hd rx ry t k
  cases x <;> first | exact False.elim t | skip
  obtain ⟨rfl, hy, t⟩ := t
  obtain ⟨a, dx, vs, rfl, ⟨_, h1⟩, h5⟩ := id rx
  have fin : ∀ tt, TyE K H w tt → PySem.W.notFirst K _ tt = true → rEqTo K _ c g (.ref a) w H Q := fun tt ty hn => by
    refine ⟨a, dx, _, tt, rfl, h1, ty, hn, F, μ, _, _, eN, hd.here, .cons rx (.cons ry RepL.nil), t, fun F2 H2 μ2 d v hd2 r2 ⟨r, ed, q2⟩ => ?_, fun cls dd H' ⟨C, b, v, d, F', μ', h1, h2, h3, h4, h5, h5', h6⟩ => h6.elim⟩
    subst ed
    cases (show v = V.bl r from r2)
    obtain ⟨p1, p2⟩ := hd.back hd2
    exact ⟨r, rfl, k F2 H2 μ2 _ _ p2 p1 rep_bl q2⟩
  rcases hy with ⟨n2, l2, rfl⟩ | ⟨T, hT⟩
  · obtain ⟨b, dy, ws, rfl, ⟨_, h2⟩, h6⟩ := id ry
    exact fin _ (.inr ⟨b, _, dy, _, rfl, h2, rfl⟩) (by simp [PySem.W.notFirst])
  · exact fin _ (ty_of hT ry) (nf_ty hT)
/-! isinstance(x, C), C an own class, x anything plain or an instance of C -/
def rIsOr (K : PySem.W.Frag) (C : Addr) : List V → Hp → VK → Prop := fun xs H Q => (∃ a dx fs, xs = [.ref a, .ref C] ∧ H a = some (.ins C dx fs) ∧ Q (.bl true) H) ∨ rIsi K xs H Q
theorem call_isOr (h : CallR X (.builtin "isinstance") (fun xs H Q => ∃ a dx fs, xs = [.ref a, .ref C] ∧ H a = some (.ins C dx fs) ∧ Q (.bl true) H)) : CallR X (.builtin "isinstance") (rIsOr X.K C) := by
  intro pins s σ H xs us Q I r hq
  exact hq.elim (h pins s σ H xs us Q I r) (call_isi pins s σ H xs us Q I r)
def rIsAny (C : Addr) : DC2 := fun ds μ q => match ds with
  | [x, .adr c] => c = C ∧ ((∃ n l, x = .ins C n l ∧ q (.bl true) μ) ∨ ∃ T, tyD x = some T ∧ q (.bl false) μ)
  | _ => False
theorem kit_no {K : PySem.W.Frag} {C : Addr} {d : D} {T : String} (hc : PySem.W.isClsIn K C = true) (ht : PySem.W.typeIn K (.ref C) = some (.type "type")) (h : tyD d = some T) : PySem.W.kitOne K (.type T) (.ref C) = some false := by
  unfold PySem.W.kitOne
  rw [if_neg (by simp)]
  unfold PySem.W.kitCls
  have hc' : (PySem.W.clsIn K C).isSome = true := hc
  dsimp only
  rw [hc', ht]
  cases d <;> simp only [tyD] at h <;> cases h <;> rfl
theorem cd_isAny {K : PySem.W.Frag} (hc : PySem.W.isClsIn K C = true) (ht : PySem.W.typeIn K (.ref C) = some (.type "type")) : CallD K (rIsOr K C) (rIsAny C) := by
  intro O F H μ ds vs q Q hd rs t k
  unfold rIsAny at t
  split at t
  · rename_i x c
    obtain ⟨rfl, t⟩ := t
    obtain ⟨v, w, rfl, h1, h2⟩ := repL2 rs
    cases (show w = V.ref _ from h2)
    rcases t with ⟨n, l, rfl, t⟩ | ⟨T, hT, t⟩
    · obtain ⟨a, dx, us, rfl, ⟨_, h3⟩, _⟩ := h1
      exact .inl ⟨a, dx, _, rfl, h3, k F H μ _ _ (Ext.refl F H) hd rep_bl t⟩
    · rcases ty_of hT h1 with ty | ⟨b, C', dx, fs, e1, e2, e3⟩
      · exact .inr ⟨v, .ref _, .type T, .ref _, false, rfl, .own _, ty, kit_no hc ht hT, k F H μ _ _ (Ext.refl F H) hd rep_bl t⟩
      · cases e3
  · exact t.elim
end
end DL

set_option linter.all false
set_option maxRecDepth 100000
namespace Law
open PySem L2 DL
structure Cls where
  InvalidBarrier : Addr
  InvalidLanes : Addr
  InvalidNumber : Addr
  InvalidStatement : Addr
  UnlikeLanes : Addr
  Kernel : Addr
  d_ACCESSES : Addr
  d_ARRAYS : Addr
  d_ITEMS : Addr
def tab_ACCESSES : List (Str × D) := [("put", .tup [.int 2]), ("move", .tup [.int 5, .int 2]), ("sum", .tup [.int 5, .int 8, .int 2])]
def miss_ACCESSES : List Str := []
def tab_ARRAYS : List (Str × D) := [("put", .tup [.int 2]), ("move", .tup [.int 2, .int 5]), ("sum", .tup [.int 2, .int 5, .int 8])]
def miss_ARRAYS : List Str := []
def tab_ITEMS : List (Str × D) := [("put", .int 7), ("move", .int 9), ("sum", .int 11)]
def miss_ITEMS : List Str := []
/-! is_guard: 0 guard 1 low 2 high 3 step 4 rest -/
@[reducible] def rd_is_guard (A : Cls) (e : DX) : DTS := (dSeq (dAsg (dVar 0) (dgTup 4 (dgCons (dgName 1) (dgCons (dgName 2) (dgCons (dgName 3) (dgCons (dgName 4) dgNil))))))
    (dRet (dAndT (dChain rLeX rLeX (dC (.int 0)) (dVar 1) (dVar 2)) (dChain rLeX rLtD (dC (.int 0)) (dVar 4) (dVar 3)))))
/-! is_array_name: 0 name 1 letter -/
@[reducible] def rd_is_array_name (A : Cls) (e : DX) : DTS := (dRet (dAndT (dChain rLeX rLeX (dC (.int 1)) (dCB rLenD (dCons (dVar 0) dNil)) (dC (.int 8))) (dCB rAllD (dCons (dLc (diSq (dVar 0)) (dgName 1) dYes (dChain rLeX rLeX (dC (.str "a")) (dVar 1) (dC (.str "z"))) [1]) dNil))))
/-! is_statement: 0 statement 1 lanes 2 word 3 guard 4 place -/
@[reducible] def rd_is_statement (A : Cls) (c_is_array_name : DSp) (c_is_guard : DSp) (e : DX) : DTS := (dSeq (dAsg (dOp rIxG (dVar 0) (dC (.int 0))) (dgName 2))
    (dSeq (dIfS (dOr (dTest (dOp (rKdIn true A.d_ITEMS tab_ITEMS miss_ITEMS) (dVar 2) (dC (.adr A.d_ITEMS)))) (dTest (dOp rNeG (dCB rLenD (dCons (dVar 0) dNil)) (dOp (rKdIx A.d_ITEMS tab_ITEMS) (dC (.adr A.d_ITEMS)) (dVar 2))))) (dRet (dC (.bl false))) dNext)
    (dSeq (dIfS (dNot (dTru (dCB rAllD (dCons (dLc (diSq (dOp (rKdIx A.d_ARRAYS tab_ARRAYS) (dC (.adr A.d_ARRAYS)) (dVar 2))) (dgName 4) dYes (dCall c_is_array_name eN [] (dCons (dOp rIxG (dVar 0) (dVar 4)) dNil)) [4]) dNil)))) (dRet (dC (.bl false))) dNext)
    (dSeq (dAsg (dOp rIxG (dVar 0) (dC (.int 1))) (dgName 3))
    (dRet (dAndT (dCall c_is_guard e [] (dCons (dVar 3) dNil)) (dOp rLeX (dOp rIxG (dVar 3) (dC (.int 1))) (dVar 1))))))))
/-! access_at: 0 statement 1 number 2 place 3 word -/
@[reducible] def rd_access_at (A : Cls) (e : DX) : DTS := (dSeq (dAsg (dIf (dTest (dOp rEqG (dVar 2) (dC (.int 2)))) (dC (.str "write")) (dC (.str "read"))) (dgName 3))
    (dRet (dTup (dCons (dVar 1) (dCons (dVar 3) (dCons (dOp rIxG (dVar 0) (dVar 2)) (dCons (dOp rIxG (dVar 0) (dOp rAddD (dVar 2) (dC (.int 1)))) (dCons (dOp rIxG (dVar 0) (dOp rAddD (dVar 2) (dC (.int 2)))) dNil))))))))
/-! accesses_of: 0 statements 1 number 2 statement 3 place -/
@[reducible] def rd_accesses_of (A : Cls) (c_access_at : DSp) (e : DX) : DTS := (dRet (dLc2 (diEnX (dCons (dVar 0) dNil)) (dgTup 2 (dgCons (dgName 1) (dgCons (dgName 2) dgNil))) dYes (diSq (dOp (rKdIx A.d_ACCESSES tab_ACCESSES) (dC (.adr A.d_ACCESSES)) (dOp rIxG (dVar 2) (dC (.int 0))))) (dgName 3) dYes (dCall c_access_at eN [] (dCons (dVar 2) (dCons (dVar 1) (dCons (dVar 3) dNil)))) [1, 2, 3] [3]))
/-! count_up_to: 0 barriers 1 statement 2 barrier -/
@[reducible] def rd_count_up_to (A : Cls) (e : DX) : DTS := (dRet (dCB rLenD (dCons (dLc (diSq (dVar 0)) (dgName 2) (dTest (dOp rLeX (dVar 2) (dVar 1))) (dVar 2) [2]) dNil)))
/-! check_lanes: 0 lanes -/
@[reducible] def rd_check_lanes (A : Cls) (e : DX) : DTS := (dIfS (dTest (dOp rLtD (dVar 0) (dC (.int 1)))) (dRaise A.InvalidLanes (dVar 0) e) dNext)
/-! check_statement: 0 statement 1 number 2 lanes -/
@[reducible] def rd_check_statement (A : Cls) (c_is_statement : DSp) (e : DX) : DTS := (dIfS (dNot (dTru (dCall c_is_statement e [] (dCons (dVar 0) (dCons (dVar 2) dNil))))) (dRaise A.InvalidStatement (dVar 1) e) dNext)
/-! check_barriers: 0 barriers 1 many 2 before 3 number 4 barrier -/
@[reducible] def rd_check_barriers (A : Cls) (e : DX) : DTS := (dSeq (dAsg (dC (.int 0)) (dgName 2))
    (dFor (diEnX (dCons (dVar 0) dNil)) (dgTup 2 (dgCons (dgName 3) (dgCons (dgName 4) dgNil))) (dSeq (dIfS (dOr (dTest (dOp rLeX (dVar 4) (dVar 2))) (dTest (dOp rGeD (dVar 4) (dVar 1)))) (dRaise A.InvalidBarrier (dVar 3) e) dNext)
    (dAsg (dVar 4) (dgName 2)))))
/-! Kernel___init__: 0 self 1 lanes 2 statements 3 barriers 4 number 5 statement -/
@[reducible] def rd_Kernel___init__ (A : Cls) (c_check_barriers : DSp) (c_check_lanes : DSp) (c_check_statement : DSp) (e : DX) : DTS := (dSeq (dDrop (dCall c_check_lanes e [] (dCons (dVar 1) dNil)))
    (dSeq (dFor (diEnX (dCons (dVar 2) dNil)) (dgTup 2 (dgCons (dgName 4) (dgCons (dgName 5) dgNil))) (dDrop (dCall c_check_statement e [] (dCons (dVar 5) (dCons (dVar 4) (dCons (dVar 1) dNil))))))
    (dSeq (dDrop (dCall c_check_barriers e [] (dCons (dVar 3) (dCons (dCB rLenD (dCons (dVar 2) dNil)) dNil))))
    (dSeq (dsFld A.Kernel "_lanes" (dVar 0) (dVar 1))
    (dSeq (dsFld A.Kernel "_statements" (dVar 0) (dCB rListD (dCons (dVar 2) dNil)))
    (dSeq (dsFld A.Kernel "_barriers" (dVar 0) (dCB rListD (dCons (dVar 3) dNil)))
    (dsFld A.Kernel "_racing" (dVar 0) (dC .non))))))))
/-! Kernel_lanes: 0 self -/
@[reducible] def rd_Kernel_lanes (A : Cls) (e : DX) : DTS := (dRet (dFld A.Kernel "_lanes" (dVar 0)))
/-! Kernel_statements: 0 self -/
@[reducible] def rd_Kernel_statements (A : Cls) (e : DX) : DTS := (dRet (dEi (dCB rListD (dCons (dFld A.Kernel "_statements" (dVar 0)) dNil)) (dCB rListM (dCons (dFld A.Kernel "_statements" (dVar 0)) dNil))))
/-! Kernel_barriers: 0 self -/
@[reducible] def rd_Kernel_barriers (A : Cls) (e : DX) : DTS := (dRet (dEi (dCB rListD (dCons (dFld A.Kernel "_barriers" (dVar 0)) dNil)) (dCB rListM (dCons (dFld A.Kernel "_barriers" (dVar 0)) dNil))))
/-! Kernel___len__: 0 self -/
@[reducible] def rd_Kernel___len__ (A : Cls) (e : DX) : DTS := (dRet (dCB rLenD (dCons (dFld A.Kernel "_statements" (dVar 0)) dNil)))
/-! Kernel___eq__: 0 self 1 other -/
@[reducible] def rd_Kernel___eq__ (A : Cls) (e : DX) : DTS := (dRet (dAndT (dCB (rIsAny A.Kernel) (dCons (dVar 1) (dCons (dC (.adr A.Kernel)) dNil))) (dAndT (dOp rEqG (dFld A.Kernel "_lanes" (dVar 0)) (dFld A.Kernel "_lanes" (dVar 1))) (dAndT (dOp rEqG (dFld A.Kernel "_statements" (dVar 0)) (dFld A.Kernel "_statements" (dVar 1))) (dOp rEqG (dFld A.Kernel "_barriers" (dVar 0)) (dFld A.Kernel "_barriers" (dVar 1)))))))
/-! Kernel___add__: 0 self 1 other 2 many 3 between 4 behind 5 barrier -/
@[reducible] def rd_Kernel___add__ (A : Cls) (c_Kernel___init__ : DSp) (e : DX) : DTS := (dSeq (dIfS (dTest (dOp rNeG (dFld A.Kernel "_lanes" (dVar 0)) (dFld A.Kernel "_lanes" (dVar 1)))) (dRaise A.UnlikeLanes (dC .non) e) dNext)
    (dSeq (dAsg (dCB rLenD (dCons (dFld A.Kernel "_statements" (dVar 0)) dNil)) (dgName 2))
    (dSeq (dAsg (dIf (dAnd (dTest (dOp rGtD (dVar 2) (dC (.int 0)))) (dTest (dOp rGtD (dCB rLenD (dCons (dFld A.Kernel "_statements" (dVar 1)) dNil)) (dC (.int 0))))) (dLst (dCons (dVar 2) dNil)) (dLst dNil)) (dgName 3))
    (dSeq (dAsg (dLc (diSq (dFld A.Kernel "_barriers" (dVar 1))) (dgName 5) dYes (dOp rAddD (dVar 2) (dVar 5)) [5]) (dgName 4))
    (dRet (dMakeZ A.Kernel c_Kernel___init__ e [] (dCons (dFld A.Kernel "_lanes" (dVar 0)) (dCons (dOp rAddD (dFld A.Kernel "_statements" (dVar 0)) (dFld A.Kernel "_statements" (dVar 1))) (dCons (dOp rAddD (dOp rAddD (dFld A.Kernel "_barriers" (dVar 0)) (dVar 3)) (dVar 4)) dNil)))))))))
/-! Kernel_with_barriers: 0 self 1 barriers -/
@[reducible] def rd_Kernel_with_barriers (A : Cls) (c_Kernel___init__ : DSp) (e : DX) : DTS := (dRet (dMakeZ A.Kernel c_Kernel___init__ e [] (dCons (dFld A.Kernel "_lanes" (dVar 0)) (dCons (dFld A.Kernel "_statements" (dVar 0)) (dCons (dVar 1) dNil)))))
/-! accesses: 0 kernel -/
@[reducible] def rd_accesses (A : Cls) (c_Kernel_statements : DSp) (c_accesses_of : DSp) (e : DX) : DTS := (dRet (dCall c_accesses_of e [] (dCons (dProp A.Kernel c_Kernel_statements (dVar 0)) dNil)))
/-! phase_of: 0 kernel 1 statement -/
@[reducible] def rd_phase_of (A : Cls) (c_Kernel___len__ : DSp) (c_Kernel_barriers : DSp) (c_count_up_to : DSp) (e : DX) : DTS := (dSeq (dIfS (dOr (dTest (dOp rLtD (dVar 1) (dC (.int 0)))) (dTest (dOp rGeD (dVar 1) (dCB (rLenX A.Kernel c_Kernel___len__) (dCons (dVar 0) dNil))))) (dRaise A.InvalidNumber (dVar 1) e) dNext)
    (dRet (dCall c_count_up_to e [] (dCons (dProp A.Kernel c_Kernel_barriers (dVar 0)) (dCons (dVar 1) dNil)))))
/-! _law_source: 0 script 1 digits 2 seed 3 one -/
@[reducible] def rd__law_source (A : Cls) (e : DX) : DTS := (dSeq (dAsg (dTup (dCons (dC (.int 0)) (dCons (dC (.int 7368787)) dNil))) (dgTup 2 (dgCons (dgName 1) (dgCons (dgName 2) dgNil))))
    (dSeq (dFor (diSq (dSl (dVar 0) dNoPart (dPart (dC (.int 63))))) (dgName 3) (dSeq (dIfS (dTest (dOp rGeD (dCB rAbsD (dCons (dVar 3) dNil)) (dOp rPowD (dC (.int 10)) (dC (.int 18))))) (dAsg (dOp rAddD (dOp rMulD (dVar 1) (dOp rPowD (dC (.int 10)) (dC (.int 60)))) (dOp rModD (dCB rAbsD (dCons (dVar 3) dNil)) (dOp rPowD (dC (.int 10)) (dC (.int 60))))) (dgName 1)) dNext)
    (dAsg (dOp rModD (dOp rAddD (dOp rAddD (dOp rMulD (dVar 2) (dC (.int 6700417))) (dOp rModD (dVar 3) (dC (.int 2305843009213693921)))) (dC (.int 13))) (dC (.int 2305843009213693951))) (dgName 2))))
    (dRet (dLstM (dCons (dVar 1) (dCons (dVar 2) (dCons (dC (.int 0)) dNil)))))))
/-! _law_draw: 0 source 1 many 2 drawn 3 mixed -/
@[reducible] def rd__law_draw (A : Cls) (e : DX) : DTS := (dSeq (dIfS (dTest (dOp rGtD (dOp rIxG (dVar 0) (dC (.int 0))) (dC (.int 0)))) (dSeq (dAsg (dOp rModD (dOp rIxG (dVar 0) (dC (.int 0))) (dVar 1)) (dgName 2))
    (dSeq (dAsg (dOp rDivD (dOp rIxG (dVar 0) (dC (.int 0))) (dVar 1)) (dgItem (dVar 0) (dC (.int 0))))
    (dRet (dVar 2)))) dNext)
    (dSeq (dAsg (dOp rAddD (dOp rIxG (dVar 0) (dC (.int 2))) (dC (.int 1))) (dgItem (dVar 0) (dC (.int 2))))
    (dSeq (dAsg (dOp rModD (dOp rPowD (dOp rAddD (dOp rIxG (dVar 0) (dC (.int 1))) (dOp rMulD (dC (.int 179424673)) (dOp rIxG (dVar 0) (dC (.int 2))))) (dC (.int 3))) (dC (.int 162259276829213363391578010288127))) (dgName 3))
    (dSeq (dAsg (dOp rModD (dOp rPowD (dOp rAddD (dVar 3) (dOp rMulD (dC (.int 86028157)) (dOp rIxG (dVar 0) (dC (.int 2))))) (dC (.int 3))) (dC (.int 170141183460469231731687303715884105727))) (dgName 3))
    (dRet (dOp rModD (dOp rDivD (dVar 3) (dC (.int 2097152))) (dVar 1)))))))
/-! _law_same: 0 told 1 due -/
@[reducible] def rd__law_same (A : Cls) (e : DX) : DTS := (dRet (dOp rEqG (dCB rReprP (dCons (dVar 0) dNil)) (dCB rReprP (dCons (dVar 1) dNil))))
/-! _law_guard: 0 source 1 many 2 low 3 by -/
@[reducible] def rd__law_guard (A : Cls) (c__law_draw : DSp) (e : DX) : DTS := (dSeq (dIfS (dTest (dOp rEqG (dCall c__law_draw e [] (dCons (dVar 0) (dCons (dC (.int 3)) dNil))) (dC (.int 0)))) (dRet (dTup (dCons (dC (.int 0)) (dCons (dVar 1) (dCons (dC (.int 1)) (dCons (dC (.int 0)) dNil)))))) dNext)
    (dSeq (dPar 2 3 (dCons (dCall c__law_draw e [] (dCons (dVar 0) (dCons (dOp rAddD (dVar 1) (dC (.int 1))) dNil))) (dCons (dOp rAddD (dC (.int 1)) (dCall c__law_draw e [] (dCons (dVar 0) (dCons (dC (.int 5)) dNil)))) dNil)))
    (dRet (dTup (dCons (dVar 2) (dCons (dOp rAddD (dVar 2) (dCall c__law_draw e [] (dCons (dVar 0) (dCons (dOp rAddD (dOp rSubD (dVar 1) (dVar 2)) (dC (.int 1))) dNil)))) (dCons (dVar 3) (dCons (dCall c__law_draw e [] (dCons (dVar 0) (dCons (dVar 3) dNil))) dNil))))))))
/-! _law_cell: 0 source -/
@[reducible] def rd__law_cell (A : Cls) (c__law_draw : DSp) (e : DX) : DTS := (dRet (dTup (dCons (dOp rSubD (dCall c__law_draw e [] (dCons (dVar 0) (dCons (dC (.int 6)) dNil))) (dC (.int 2))) (dCons (dOp rSubD (dCall c__law_draw e [] (dCons (dVar 0) (dCons (dC (.int 9)) dNil))) (dC (.int 3))) dNil))))
/-! _law_statement: 0 source 1 many 2 names_here 3 a 4 b 5 row 6 name 7 some 8 more 9 last 10 pick 11 part -/
@[reducible] def rd__law_statement (A : Cls) (c__law_cell : DSp) (c__law_draw : DSp) (c__law_guard : DSp) (e : DX) : DTS := (dSeq (dAsg (dTup (dCons (dCall c__law_cell e [] (dCons (dVar 0) dNil)) (dCons (dCall c__law_guard e [] (dCons (dVar 0) (dCons (dVar 1) dNil))) dNil))) (dgTup 2 (dgCons (dgTup 2 (dgCons (dgName 3) (dgCons (dgName 4) dgNil))) (dgCons (dgName 5) dgNil))))
    (dSeq (dAsg (dOp rIxG (dVar 2) (dCall c__law_draw e [] (dCons (dVar 0) (dCons (dCB rLenD (dCons (dVar 2) dNil)) dNil)))) (dgName 6))
    (dSeq (dAsg (dLc (diRw1 (dCons (dC (.int 2)) dNil)) (dgName 11) dYes (dOp rIxG (dVar 2) (dCall c__law_draw eN [] (dCons (dVar 0) (dCons (dCB rLenD (dCons (dVar 2) dNil)) dNil)))) [11]) (dgName 7))
    (dSeq (dPar 8 9 (dCons (dCall c__law_cell e [] (dCons (dVar 0) dNil)) (dCons (dCall c__law_cell e [] (dCons (dVar 0) dNil)) dNil)))
    (dSeq (dAsg (dCall c__law_draw e [] (dCons (dVar 0) (dCons (dC (.int 5)) dNil))) (dgName 10))
    (dSeq (dIfS (dTest (dOp rLtD (dVar 10) (dC (.int 3)))) (dRet (dTup (dCons (dC (.str "put")) (dCons (dVar 5) (dCons (dVar 6) (dCons (dVar 3) (dCons (dVar 4) (dCons (dOp rSubD (dCall c__law_draw e [] (dCons (dVar 0) (dCons (dC (.int 4)) dNil))) (dC (.int 1))) (dCons (dOp rSubD (dCall c__law_draw e [] (dCons (dVar 0) (dCons (dC (.int 6)) dNil))) (dC (.int 2))) dNil))))))))) dNext)
    (dSeq (dIfS (dTest (dOp rEqG (dVar 10) (dC (.int 3)))) (dRet (dTup (dCons (dC (.str "move")) (dCons (dVar 5) (dCons (dVar 6) (dCons (dVar 3) (dCons (dVar 4) (dCons (dOp rIxG (dVar 7) (dC (.int 0))) (dCons (dOp rIxG (dVar 8) (dC (.int 0))) (dCons (dOp rIxG (dVar 8) (dC (.int 1))) (dCons (dOp rSubD (dCall c__law_draw e [] (dCons (dVar 0) (dCons (dC (.int 5)) dNil))) (dC (.int 2))) dNil))))))))))) dNext)
    (dRet (dTup (dCons (dC (.str "sum")) (dCons (dVar 5) (dCons (dVar 6) (dCons (dVar 3) (dCons (dVar 4) (dCons (dOp rIxG (dVar 7) (dC (.int 0))) (dCons (dOp rIxG (dVar 8) (dC (.int 0))) (dCons (dOp rIxG (dVar 8) (dC (.int 1))) (dCons (dOp rIxG (dVar 7) (dC (.int 1))) (dCons (dOp rIxG (dVar 9) (dC (.int 0))) (dCons (dOp rIxG (dVar 9) (dC (.int 1))) dNil))))))))))))))))))))
/-! _law_places: 0 source 1 many 2 spot -/
@[reducible] def rd__law_places (A : Cls) (c__law_draw : DSp) (e : DX) : DTS := (dRet (dEi (dLc (diRw2 (dCons (dC (.int 1)) (dCons (dVar 1) dNil))) (dgName 2) (dTest (dOp rEqG (dCall c__law_draw eN [] (dCons (dVar 0) (dCons (dC (.int 4)) dNil))) (dC (.int 0)))) (dVar 2) [2]) (dLcM (diRw2 (dCons (dC (.int 1)) (dCons (dVar 1) dNil))) (dgName 2) (dTest (dOp rEqG (dCall c__law_draw eN [] (dCons (dVar 0) (dCons (dC (.int 4)) dNil))) (dC (.int 0)))) (dVar 2) [2])))
/-! _law_parts: 0 program 1 found 2 spot 3 item 4 plain -/
@[reducible] def rd__law_parts (A : Cls) (e : DX) : DTS := (dSeq (dAsg (dLstM dNil) (dgName 1))
    (dSeq (dFor (diEnX (dCons (dVar 0) dNil)) (dgTup 2 (dgCons (dgName 2) (dgCons (dgName 3) dgNil))) (dSeq (dAsg (dIf (dTest (dOp rEqG (dOp rIxG (dVar 3) (dC (.int 0))) (dC (.str "put")))) (dSl (dVar 3) (dPart (dC (.int 5))) dNoPart) (dC .non)) (dgName 4))
    (dSeq (dIfS (dTest (dOp rEqG (dOp rIxG (dVar 3) (dC (.int 0))) (dC (.str "move")))) (dDrop (dAppend (dVar 1) (dTup (dCons (dVar 2) (dCons (dC (.str "read")) (dCons (dOp rIxG (dVar 3) (dC (.int 5))) (dCons (dOp rIxG (dVar 3) (dC (.int 6))) (dCons (dOp rIxG (dVar 3) (dC (.int 7))) (dCons (dOp rIxG (dVar 3) (dC (.int 1))) (dCons (dC .non) dNil)))))))))) dNext)
    (dSeq (dIfS (dTest (dOp rEqG (dOp rIxG (dVar 3) (dC (.int 0))) (dC (.str "sum")))) (dSeq (dDrop (dAppend (dVar 1) (dTup (dCons (dVar 2) (dCons (dC (.str "read")) (dCons (dOp rIxG (dVar 3) (dC (.int 5))) (dCons (dOp rIxG (dVar 3) (dC (.int 6))) (dCons (dOp rIxG (dVar 3) (dC (.int 7))) (dCons (dOp rIxG (dVar 3) (dC (.int 1))) (dCons (dC .non) dNil))))))))))
    (dDrop (dAppend (dVar 1) (dTup (dCons (dVar 2) (dCons (dC (.str "read")) (dCons (dOp rIxG (dVar 3) (dC (.int 8))) (dCons (dOp rIxG (dVar 3) (dC (.int 9))) (dCons (dOp rIxG (dVar 3) (dC (.int 10))) (dCons (dOp rIxG (dVar 3) (dC (.int 1))) (dCons (dC .non) dNil))))))))))) dNext)
    (dDrop (dAppend (dVar 1) (dTup (dCons (dVar 2) (dCons (dC (.str "write")) (dCons (dOp rIxG (dVar 3) (dC (.int 2))) (dCons (dOp rIxG (dVar 3) (dC (.int 3))) (dCons (dOp rIxG (dVar 3) (dC (.int 4))) (dCons (dOp rIxG (dVar 3) (dC (.int 1))) (dCons (dVar 4) dNil))))))))))))))
    (dRet (dVarF 1))))
/-! _law_phase: 0 places 1 spot 2 place -/
@[reducible] def rd__law_phase (A : Cls) (e : DX) : DTS := (dRet (dCB rLenD (dCons (dLc (diSq (dVar 0)) (dgName 2) (dTest (dOp rLeX (dVar 2) (dVar 1))) (dVar 2) [2]) dNil)))
/-! _law_far_statement: 0 source 1 item 2 part -/
@[reducible] def rd__law_far_statement (A : Cls) (e : DX) : DTS := (dRet (dOp rAddD (dSl (dVar 1) dNoPart (dPart (dC (.int 3)))) (dCB rTupleD (dCons (dLc (diSq (dSl (dVar 1) (dPart (dC (.int 3))) dNoPart)) (dgName 2) dYes (dIf (dTru (dCB rIsIntD (dCons (dVar 2) (dCons (dC (.typ "int")) dNil)))) (dOp rAddD (dOp rMulD (dVar 2) (dOp rPowD (dC (.int 10)) (dC (.int 20)))) (dC (.int 7))) (dVar 2)) [2]) dNil))))
/-! _law_name: 0 source 1 letters 2 more -/
@[reducible] def rd__law_name (A : Cls) (c__law_draw : DSp) (e : DX) : DTS := (dSeq (dAsg (dC (.str "abcdefghijklmnopqrstuvwxyz")) (dgName 1))
    (dRet (dJoin (dC (.str "")) (dLc (diRw1 (dCons (dOp rAddD (dC (.int 1)) (dCall c__law_draw e [] (dCons (dVar 0) (dCons (dC (.int 8)) dNil)))) dNil)) (dgName 2) dYes (dOp rIxG (dVar 1) (dCall c__law_draw eN [] (dCons (dVar 0) (dCons (dC (.int 26)) dNil)))) [2]))))
/-! _law_bent: 0 source 1 program 2 spot 3 found 4 item 5 place -/
@[reducible] def rd__law_bent (A : Cls) (c__law_draw : DSp) (c__law_name : DSp) (e : DX) : DTS := (dSeq (dIfS (dTest (dOp rEqG (dVar 1) (dLst dNil))) (dRet (dVar 1)) dNext)
    (dSeq (dPar 2 3 (dCons (dCall c__law_draw e [] (dCons (dVar 0) (dCons (dCB rLenD (dCons (dVar 1) dNil)) dNil))) (dCons (dCB rListM (dCons (dVar 1) dNil)) dNil)))
    (dSeq (dAsg (dCB rListM (dCons (dOp rIxG (dVar 1) (dVar 2)) dNil)) (dgName 4))
    (dSeq (dAsg (dOp rAddD (dC (.int 1)) (dCall c__law_draw e [] (dCons (dVar 0) (dCons (dOp rSubD (dCB rLenD (dCons (dVar 4) dNil)) (dC (.int 1))) dNil)))) (dgName 5))
    (dSeq (dIfS (dTest (dOp rEqG (dCall c__law_draw e [] (dCons (dVar 0) (dCons (dC (.int 4)) dNil))) (dC (.int 0)))) (dSeq (dAsg (dTup (dCons (dOp rIxG (dVar 3) (dC (.int 0))) (dCons (dOp rIxG (dVar 3) (dVar 2)) dNil))) (dgTup 2 (dgCons (dgItem (dVar 3) (dVar 2)) (dgCons (dgItem (dVar 3) (dC (.int 0))) dgNil))))
    (dRet (dVarF 3))) dNext)
    (dSeq (dIfS (dTest (dOp rEqG (dVar 5) (dC (.int 1)))) (dAsg (dTup (dCons (dOp rIxG (dOp rIxG (dVar 4) (dC (.int 1))) (dC (.int 0))) (dCons (dOp rIxG (dOp rIxG (dVar 4) (dC (.int 1))) (dC (.int 1))) (dCons (dOp rAddD (dOp rIxG (dOp rIxG (dVar 4) (dC (.int 1))) (dC (.int 2))) (dC (.int 1))) (dCons (dOp rIxG (dOp rIxG (dVar 4) (dC (.int 1))) (dC (.int 3))) dNil))))) (dgItem (dVar 4) (dC (.int 1)))) (dIfS (dTru (dCB rIsStrD (dCons (dOp rIxG (dVar 4) (dVar 5)) (dCons (dC (.typ "str")) dNil)))) (dAsg (dCall c__law_name e [] (dCons (dVar 0) dNil)) (dgItem (dVar 4) (dVar 5))) (dAsg (dOp rAddD (dOp rIxG (dVar 4) (dVar 5)) (dC (.int 1))) (dgItem (dVar 4) (dVar 5)))))
    (dSeq (dAsg (dCB rTupleD (dCons (dVar 4) dNil)) (dgItem (dVar 3) (dVar 2)))
    (dRet (dVarF 3)))))))))
/-! _law_drawn: 0 source 1 many 2 size 3 names 4 program 5 more 6 item -/
@[reducible] def rd__law_drawn (A : Cls) (c__law_draw : DSp) (c__law_far_statement : DSp) (c__law_name : DSp) (c__law_places : DSp) (c__law_statement : DSp) (e : DX) : DTS := (dSeq (dAsg (dOp rIxG (dLst (dCons (dCall c__law_draw e [] (dCons (dVar 0) (dCons (dC (.int 6)) dNil))) (dCons (dCall c__law_draw e [] (dCons (dVar 0) (dCons (dC (.int 13)) dNil))) dNil))) (dCall c__law_draw e [] (dCons (dVar 0) (dCons (dC (.int 2)) dNil)))) (dgName 2))
    (dSeq (dAsg (dLst (dCons (dC (.str "x")) (dCons (dCall c__law_name e [] (dCons (dVar 0) dNil)) (dCons (dCall c__law_name e [] (dCons (dVar 0) dNil)) dNil)))) (dgName 3))
    (dSeq (dAsg (dLc (diRw1 (dCons (dVar 2) dNil)) (dgName 5) dYes (dCall c__law_statement eN [] (dCons (dVar 0) (dCons (dCB rMin2D (dCons (dVar 1) (dCons (dC (.int 30)) dNil))) (dCons (dVar 3) dNil)))) [5]) (dgName 4))
    (dSeq (dIfS (dTest (dOp rEqG (dCall c__law_draw e [] (dCons (dVar 0) (dCons (dC (.int 3)) dNil))) (dC (.int 0)))) (dAsg (dLc (diSq (dVar 4)) (dgName 6) dYes (dCall c__law_far_statement eN [] (dCons (dVar 0) (dCons (dVar 6) dNil))) [6]) (dgName 4)) dNext)
    (dRet (dLst (dCons (dVar 4) (dCons (dCall c__law_places e [] (dCons (dVar 0) (dCons (dVar 2) dNil))) dNil))))))))
/-! _law_accesses_right: 0 one 1 program 2 places 3 parts 4 phases 5 some 6 part 7 spot -/
@[reducible] def rd__law_accesses_right (A : Cls) (c__law_parts : DSp) (c__law_phase : DSp) (c__law_same : DSp) (c_accesses : DSp) (c_phase_of : DSp) (e : DX) : DTS := (dSeq (dAsg (dLc (diSq (dCall c__law_parts e [] (dCons (dVar 1) dNil))) (dgName 6) dYes (dSl (dVar 6) dNoPart (dPart (dC (.int 5)))) [6]) (dgName 3))
    (dSeq (dIfS (dNot (dTru (dCall c__law_same e [] (dCons (dLst (dCons (dCall c_accesses e [] (dCons (dVar 0) dNil)) (dCons (dCallX c_accesses e 0 1 [0] [] dNil (dCons (dVar 0) dNil)) dNil))) (dCons (dLst (dCons (dVar 3) (dCons (dVar 3) dNil))) dNil))))) (dRet (dC (.bl false))) dNext)
    (dSeq (dAsg (dLc (diRw1 (dCons (dCB rLenD (dCons (dVar 1) dNil)) dNil)) (dgName 7) dYes (dCall c__law_phase eN [] (dCons (dVar 2) (dCons (dVar 7) dNil))) [7]) (dgName 4))
    (dSeq (dIfS (dTest (dOp rNeG (dLc (diRw1 (dCons (dCB rLenD (dCons (dVar 1) dNil)) dNil)) (dgName 7) dYes (dCall c_phase_of eN [] (dCons (dVar 0) (dCons (dVar 7) dNil))) [7]) (dVar 4))) (dRet (dC (.bl false))) dNext)
    (dSeq (dIfS (dAnd (dTest (dOp rNeG (dVar 1) (dLst dNil))) (dTest (dOp rNeG (dCallX c_phase_of e 0 2 [1, 0] [] dNil (dCons (dOp rSubD (dCB rLenD (dCons (dVar 1) dNil)) (dC (.int 1))) (dCons (dVar 0) dNil))) (dOp rIxG (dVar 4) (dUn rNegD (dC (.int 1))))))) (dRet (dC (.bl false))) dNext)
    (dSeq (dAsg (dCall c_accesses e [] (dCons (dVar 0) dNil)) (dgName 5))
    (dSeq (dDrop (dAppend (dVar 5) (dC (.int 0))))
    (dRet (dOp rEqG (dCall c_accesses e [] (dCons (dVar 0) dNil)) (dVar 3))))))))))
/-! _law_made_right: 0 source 1 many 2 program 3 places 4 held 5 marks 6 one 7 two 8 told 9 others 10 other 11 due 12 more 13 place 14 thing -/
@[reducible] def rd__law_made_right (A : Cls) (c_Kernel___eq__ : DSp) (c_Kernel___init__ : DSp) (c_Kernel___len__ : DSp) (c_Kernel_barriers : DSp) (c_Kernel_lanes : DSp) (c_Kernel_statements : DSp) (c_Kernel_with_barriers : DSp) (c__law_accesses_right : DSp) (c__law_bent : DSp) (c__law_same : DSp) (e : DX) : DTS := (dSeq (dPar 4 5 (dCons (dCB rListM (dCons (dVar 2) dNil)) (dCons (dCB rListM (dCons (dVar 3) dNil)) dNil)))
    (dSeq (dAsg (dTup (dCons (dMakeZ A.Kernel c_Kernel___init__ e [] (dCons (dVar 1) (dCons (dVar 4) (dCons (dVar 5) dNil)))) (dCons (dMakeK A.Kernel c_Kernel___init__ e 3 [2, 1, 0] [.tup []] (dCons (dCB rTupleD (dCons (dVar 3) dNil)) (dCons (dCB rListD (dCons (dVar 2) dNil)) (dCons (dVar 1) dNil)))) dNil))) (dgTup 2 (dgCons (dgName 6) (dgCons (dgName 7) dgNil))))
    (dSeq (dDrop (dAppend (dVar 4) (dTup (dCons (dC (.str "put")) (dCons (dTup (dCons (dC (.int 0)) (dCons (dC (.int 1)) (dCons (dC (.int 1)) (dCons (dC (.int 0)) dNil))))) (dCons (dC (.str "x")) (dCons (dC (.int 0)) (dCons (dC (.int 0)) (dCons (dC (.int 0)) (dCons (dC (.int 0)) dNil))))))))))
    (dSeq (dDrop (dAppend (dVar 5) (dC (.int 99))))
    (dSeq (dAsg (dLst (dCons (dProp A.Kernel c_Kernel_lanes (dVar 6)) (dCons (dProp A.Kernel c_Kernel_statements (dVar 6)) (dCons (dProp A.Kernel c_Kernel_barriers (dVar 6)) (dCons (dCB (rLenX A.Kernel c_Kernel___len__) (dCons (dVar 6) dNil)) dNil))))) (dgName 8))
    (dSeq (dIfS (dOr (dNot (dTru (dCall c__law_same e [] (dCons (dVar 8) (dCons (dLst (dCons (dVar 1) (dCons (dVar 2) (dCons (dVar 3) (dCons (dCB rLenD (dCons (dVar 2) dNil)) dNil))))) dNil))))) (dOr (dTest (dOp (rEqAny A.Kernel c_Kernel___eq__ not) (dVar 6) (dVar 7))) (dNot (dTest (dOp (rEqAny A.Kernel c_Kernel___eq__ id) (dVar 6) (dVar 7)))))) (dRet (dC (.bl false))) dNext)
    (dSeq (dDrop (dAppend (dProp A.Kernel c_Kernel_statements (dVar 6)) (dC (.int 0))))
    (dSeq (dDrop (dAppend (dProp A.Kernel c_Kernel_barriers (dVar 6)) (dC (.int 0))))
    (dSeq (dIfS (dOr (dTest (dOp rNeG (dProp A.Kernel c_Kernel_statements (dVar 6)) (dVar 2))) (dTest (dOp rNeG (dProp A.Kernel c_Kernel_barriers (dVar 6)) (dVar 3)))) (dRet (dC (.bl false))) dNext)
    (dSeq (dIfS (dNot (dTru (dCall c__law_accesses_right e [] (dCons (dVar 6) (dCons (dVar 2) (dCons (dVar 3) dNil)))))) (dRet (dC (.bl false))) dNext)
    (dSeq (dAsg (dLstM (dCons (dMakeZ A.Kernel c_Kernel___init__ e [] (dCons (dOp rAddD (dVar 1) (dC (.int 1))) (dCons (dCB rListD (dCons (dVar 2) dNil)) (dCons (dVar 3) dNil)))) (dCons (dMeth A.Kernel "with_barriers" c_Kernel_with_barriers e (dVar 6) (dCons (dLst dNil) dNil)) dNil))) (dgName 9))
    (dSeq (dAsg (dOp rAddM (dVar 9) (dLc (diRw1 (dCons (dC (.int 3)) dNil)) (dgName 12) dYes (dMakeZ A.Kernel c_Kernel___init__ eN [] (dCons (dVar 1) (dCons (dCall c__law_bent eN [] (dCons (dVar 0) (dCons (dVar 2) dNil))) (dCons (dVar 3) dNil)))) [12])) (dgName 9))
    (dSeq (dIfS (dTest (dOp rNeG (dVar 2) (dLst dNil))) (dSeq (dDrop (dAppend (dVar 9) (dMakeZ A.Kernel c_Kernel___init__ e [] (dCons (dVar 1) (dCons (dSl (dVar 2) dNoPart (dPart (dUn rNegD (dC (.int 1))))) (dCons (dLc (diSq (dVar 3)) (dgName 13) (dTest (dOp rLtD (dVar 13) (dOp rSubD (dCB rLenD (dCons (dVar 2) dNil)) (dC (.int 1))))) (dVar 13) [13]) dNil))))))
    (dDrop (dAppend (dVar 9) (dMakeZ A.Kernel c_Kernel___init__ e [] (dCons (dVar 1) (dCons (dOp rAddD (dLst (dCons (dTup (dCons (dC (.str "put")) (dCons (dTup (dCons (dC (.int 0)) (dCons (dC (.int 1)) (dCons (dC (.int 1)) (dCons (dC (.int 0)) dNil))))) (dCons (dC (.str "q")) (dCons (dC (.int 0)) (dCons (dC (.int 0)) (dCons (dC (.int 0)) (dCons (dC (.int 1)) dNil)))))))) dNil)) (dSl (dVar 2) (dPart (dC (.int 1))) dNoPart)) (dCons (dVar 3) dNil))))))) dNext)
    (dSeq (dFor (diSq (dVar 9)) (dgName 10) (dSeq (dAsg (dOp rEqG (dLst (dCons (dProp A.Kernel c_Kernel_lanes (dVar 10)) (dCons (dProp A.Kernel c_Kernel_statements (dVar 10)) (dCons (dProp A.Kernel c_Kernel_barriers (dVar 10)) dNil)))) (dLst (dCons (dVar 1) (dCons (dVar 2) (dCons (dVar 3) dNil))))) (dgName 11))
    (dIfS (dOr (dTest (dOp rNeG (dOp (rEqAny A.Kernel c_Kernel___eq__ id) (dVar 6) (dVar 10)) (dVar 11))) (dTest (dOp rEqG (dOp (rEqAny A.Kernel c_Kernel___eq__ not) (dVar 6) (dVar 10)) (dVar 11)))) (dRet (dC (.bl false))) dNext)))
    (dRet (dOp rEqG (dLc (diSq (dTup (dCons (dVar 2) (dCons (dC .non) (dCons (dVar 1) (dCons (dC (.str "x")) (dCons (dTup (dCons (dVar 1) (dCons (dVar 2) dNil))) dNil))))))) (dgName 14) (dOr (dTest (dOp (rEqAny A.Kernel c_Kernel___eq__ id) (dVar 6) (dVar 14))) (dNot (dTest (dOp (rEqAny A.Kernel c_Kernel___eq__ not) (dVar 6) (dVar 14))))) (dC (.int 1)) [14]) (dLst dNil)))))))))))))))))
/-! _law_sum_right: 0 many 1 one 2 two 3 size 4 left 5 right 6 between 7 due 8 both 9 place -/
@[reducible] def rd__law_sum_right (A : Cls) (c_Kernel___add__ : DSp) (c_Kernel___eq__ : DSp) (c_Kernel___init__ : DSp) (c_Kernel_barriers : DSp) (c_Kernel_lanes : DSp) (c_Kernel_statements : DSp) (c__law_same : DSp) (e : DX) : DTS := (dSeq (dAsg (dCB rLenD (dCons (dOp rIxG (dVar 1) (dC (.int 0))) dNil)) (dgName 3))
    (dSeq (dAsg (dLst (dCons (dSl (dOp rIxG (dVar 2) (dC (.int 0))) dNoPart (dPart (dOp rSubD (dC (.int 12)) (dVar 3)))) (dCons (dLc (diSq (dOp rIxG (dVar 2) (dC (.int 1)))) (dgName 9) (dTest (dOp rLtD (dVar 9) (dOp rSubD (dC (.int 12)) (dVar 3)))) (dVar 9) [9]) dNil))) (dgName 2))
    (dSeq (dPar 4 5 (dCons (dMakeZ A.Kernel c_Kernel___init__ e [] (dCons (dVar 0) (dCons (dOp rIxG (dVar 1) (dC (.int 0))) (dCons (dOp rIxG (dVar 1) (dC (.int 1))) dNil)))) (dCons (dMakeZ A.Kernel c_Kernel___init__ e [] (dCons (dVar 0) (dCons (dOp rIxG (dVar 2) (dC (.int 0))) (dCons (dOp rIxG (dVar 2) (dC (.int 1))) dNil)))) dNil)))
    (dSeq (dAsg (dIf (dAnd (dTest (dOp rGtD (dVar 3) (dC (.int 0)))) (dTest (dOp rNeG (dOp rIxG (dVar 2) (dC (.int 0))) (dLst dNil)))) (dLst (dCons (dVar 3) dNil)) (dLst dNil)) (dgName 6))
    (dSeq (dAsg (dLst (dCons (dOp rAddD (dOp rIxG (dVar 1) (dC (.int 0))) (dOp rIxG (dVar 2) (dC (.int 0)))) (dCons (dOp rAddD (dOp rAddD (dOp rIxG (dVar 1) (dC (.int 1))) (dVar 6)) (dLc (diSq (dOp rIxG (dVar 2) (dC (.int 1)))) (dgName 9) dYes (dOp rAddD (dVar 3) (dVar 9)) [9])) dNil))) (dgName 7))
    (dSeq (dAsg (dAddOwn A.Kernel c_Kernel___add__ e (dVar 4) (dVar 5)) (dgName 8))
    (dSeq (dIfS (dNot (dTru (dCall c__law_same e [] (dCons (dLst (dCons (dProp A.Kernel c_Kernel_lanes (dVar 8)) (dCons (dProp A.Kernel c_Kernel_statements (dVar 8)) (dCons (dProp A.Kernel c_Kernel_barriers (dVar 8)) dNil)))) (dCons (dLst (dCons (dVar 0) (dCons (dOp rIxG (dVar 7) (dC (.int 0))) (dCons (dOp rIxG (dVar 7) (dC (.int 1))) dNil)))) dNil))))) (dRet (dC (.bl false))) dNext)
    (dRet (dAndT (dOp (rEqAny A.Kernel c_Kernel___eq__ id) (dVar 4) (dMakeZ A.Kernel c_Kernel___init__ e [] (dCons (dVar 0) (dCons (dOp rIxG (dVar 1) (dC (.int 0))) (dCons (dOp rIxG (dVar 1) (dC (.int 1))) dNil))))) (dOp rEqG (dProp A.Kernel c_Kernel_barriers (dVar 5)) (dOp rIxG (dVar 2) (dC (.int 1)))))))))))))
/-! law: 0 script 1 source 2 turn 3 many 4 one 5 two 6 marks 7 due 8 changed -/
@[reducible] def rd_law (A : Cls) (c_Kernel___init__ : DSp) (c_Kernel___len__ : DSp) (c_Kernel_barriers : DSp) (c_Kernel_statements : DSp) (c_Kernel_with_barriers : DSp) (c__law_draw : DSp) (c__law_drawn : DSp) (c__law_made_right : DSp) (c__law_places : DSp) (c__law_same : DSp) (c__law_source : DSp) (c__law_sum_right : DSp) (e : DX) : DTS := (dSeq (dAsg (dCall c__law_source e [] (dCons (dVar 0) dNil)) (dgName 1))
    (dSeq (dFor (diRw1 (dCons (dOp rAddD (dC (.int 2)) (dCB rMin2D (dCons (dC (.int 6)) (dCons (dCB rLenD (dCons (dVar 0) dNil)) dNil)))) dNil)) (dgName 2) (dSeq (dAsg (dOp rIxG (dLst (dCons (dOp rAddD (dC (.int 1)) (dCall c__law_draw e [] (dCons (dVar 1) (dCons (dC (.int 30)) dNil)))) (dCons (dOp rPowD (dC (.int 10)) (dC (.int 29))) dNil))) (dCall c__law_draw e [] (dCons (dVar 1) (dCons (dC (.int 2)) dNil)))) (dgName 3))
    (dSeq (dPar 4 5 (dCons (dCall c__law_drawn e [] (dCons (dVar 1) (dCons (dVar 3) dNil))) (dCons (dCall c__law_drawn e [] (dCons (dVar 1) (dCons (dVar 3) dNil))) dNil)))
    (dSeq (dIfS (dOr (dNot (dTru (dCall c__law_made_right e [] (dCons (dVar 1) (dCons (dVar 3) (dCons (dOp rIxG (dVar 4) (dC (.int 0))) (dCons (dOp rIxG (dVar 4) (dC (.int 1))) dNil))))))) (dNot (dTru (dCall c__law_sum_right e [] (dCons (dVar 3) (dCons (dVar 4) (dCons (dVar 5) dNil))))))) (dRet (dC (.bl false))) dNext)
    (dSeq (dAsg (dCall c__law_places e [] (dCons (dVar 1) (dCons (dCB rLenD (dCons (dOp rIxG (dVar 4) (dC (.int 0))) dNil)) dNil))) (dgName 6))
    (dSeq (dAsg (dCB rListD (dCons (dVar 6) dNil)) (dgName 7))
    (dSeq (dAsg (dMethK A.Kernel "with_barriers" c_Kernel_with_barriers e 1 [0] [] (dMakeZ A.Kernel c_Kernel___init__ e [] (dCons (dVar 3) (dCons (dOp rIxG (dVar 4) (dC (.int 0))) (dCons (dOp rIxG (dVar 4) (dC (.int 1))) dNil)))) (dCons (dVar 6) dNil)) (dgName 8))
    (dSeq (dDrop (dAppend (dVar 6) (dC (.int 99))))
    (dIfS (dNot (dTru (dCall c__law_same e [] (dCons (dLst (dCons (dProp A.Kernel c_Kernel_statements (dVar 8)) (dCons (dProp A.Kernel c_Kernel_barriers (dVar 8)) dNil))) (dCons (dLst (dCons (dOp rIxG (dVar 4) (dC (.int 0))) (dCons (dVar 7) dNil))) dNil))))) (dRet (dC (.bl false))) dNext)))))))))
    (dRet (dAndT (dOp rEqG (dCB (rLenX A.Kernel c_Kernel___len__) (dCons (dMakeZ A.Kernel c_Kernel___init__ e [.tup []] (dCons (dC (.int 1)) (dCons (dLst dNil) dNil))) dNil)) (dC (.int 0))) (dOp rEqG (dProp A.Kernel c_Kernel_barriers (dMakeK A.Kernel c_Kernel___init__ e 2 [0, 1, 2] [.tup []] (dCons (dC (.int 2)) (dCons (dLst dNil) dNil)))) (dLst dNil))))))
end Law

set_option linter.all false
set_option maxRecDepth 100000
set_option maxHeartbeats 1000000
/-! what the laws' texts have in common -/
namespace Law
open PySem L2 DL
theorem natAbs_lt {x : Int} (h0 : -(2 ^ 256) < x) (h : x < 2 ^ 256) : x.natAbs < 2 ^ 256 := by omega
theorem CDiv_of {i j : Int} (h0 : 0 < j) (h : j < 2 ^ 256) : CDivD i j := ⟨h0, 256, by omega, by decide, by decide⟩
theorem CMul_of {i j : Int} (h0 : -(2 ^ 256) < i) (h : i < 2 ^ 256) (h0' : -(2 ^ 256) < j) (h' : j < 2 ^ 256) : CMulD i j := ⟨256, 256, by omega, by omega, by decide⟩
theorem CMul_nat {a b : Nat} (h : a < 2 ^ 256) (h' : b < 2 ^ 256) : CMulD (a : Int) (b : Int) := CMul_of (by omega) (by omega) (by omega) (by omega)
theorem CDiv_nat {i : Int} {b : Nat} (h : 0 < b) (h' : b < 2 ^ 256) : CDivD i (b : Int) := CDiv_of (by omega) (by omega)
theorem CPow_of {i : Int} {j : Nat} (h0 : -(2 ^ 64) < i) (h : i < 2 ^ 64) (hj : j ≤ 10000) : CPowD i (j : Int) := ⟨by omega, 64, by omega, by omega⟩
theorem CPow_big {i : Int} {j : Nat} (h0 : -(2 ^ 256) < i) (h : i < 2 ^ 256) (hj : j ≤ 10000) : CPowD i (j : Int) := ⟨by omega, 256, by omega, by omega⟩
/-- behind a body: the answer -/
theorem fin {q : DK} {μ : Mu} {x y : D} (h : q y μ) (e : x = y) : ∃ μ2, Sub μ2 μ ∧ q x μ2 := ⟨μ, Sub.refl μ, e ▸ h⟩
/-- .. what was made on the way is dropped -/
theorem finS {q : DK} {μ μ2 : Mu} {x y : D} (s : Sub μ2 μ) (h : q y μ2) (e : x = y) : ∃ μ2, Sub μ2 μ ∧ q x μ2 := ⟨μ2, s, e ▸ h⟩
theorem iteB {b : Bool} {A B : Prop} (h1 : b = true → A) (h2 : b = false → B) : if b = true then A else B := by
  cases b with
  | true => rw [if_pos rfl]; exact h1 rfl
  | false => rw [if_neg (by decide)]; exact h2 rfl
theorem iteT {b : Bool} {A B : Prop} (h : b = true) (a : A) : if b = true then A else B := by rw [if_pos h]; exact a
theorem iteF {b : Bool} {A B : Prop} (h : b = false) (a : B) : if b = true then A else B := by rw [if_neg (by rw [h]; decide)]; exact a
theorem iteD {c : Prop} [Decidable c] {A B : Prop} (h1 : c → A) (h2 : ¬ c → B) : if decide c = true then A else B := iteB (fun h => h1 (of_decide_eq_true h)) fun h => h2 (of_decide_eq_false h)
theorem iteDT {c : Prop} [Decidable c] {A B : Prop} (h : c) (a : A) : if decide c = true then A else B := iteD (fun _ => a) fun z => absurd h z
theorem iteDF {c : Prop} [Decidable c] {A B : Prop} (h : ¬ c) (a : B) : if decide c = true then A else B := iteD (fun z => absurd z h) fun _ => a
theorem iteP {c : Prop} [Decidable c] {A B : Prop} (h : c) (a : A) : if c then A else B := by rw [if_pos h]; exact a
theorem sz {ds : List D} (n : Nat) (e : ds.length = n) (h : n ≤ 1000) : ds.length ≤ sizeLine := by rw [sizeLine_eq]; omega
theorem mod_ne {a b : Int} (h : 0 < b) : 0 ≤ a % b ∧ a % b < b := ⟨Int.emod_nonneg a (by omega), Int.emod_lt_of_pos a h⟩
theorem seq_asg {te : DTE} {g : DTG} {r : DTS} {E : DEnds} {δ : DS} {μ : Mu} (h : te δ μ fun d μ1 => g d δ μ1 (r E)) : dSeq (dAsg te g) r E δ μ := h
theorem one_asg {te : DTE} {g : DTG} {E : DEnds} {δ : DS} {μ : Mu} (h : te δ μ fun d μ1 => g d δ μ1 E.nx) : dAsg te g E δ μ := h
theorem ret_callc {c : DSp} {e : DX} {dds : List D} {x : DTE} {t : DTA} {E : DEnds} {δ : DS} {μ : Mu} (h : x δ μ fun d μ1 => t δ μ1 fun ds μ2 => c (d :: ds ++ dds) μ2 E.rt e) : dRet (dCall c e dds (dCons x t)) E δ μ := h
theorem callc {c : DSp} {e : DX} {dds : List D} {x : DTE} {t : DTA} {q : DK} {δ : DS} {μ : Mu} (h : x δ μ fun d μ1 => t δ μ1 fun ds μ2 => c (d :: ds ++ dds) μ2 q e) : dCall c e dds (dCons x t) δ μ q := h
theorem seq_par {i j : Nat} {x y : DTE} {r : DTS} {E : DEnds} {δ : DS} {μ : Mu} (h : x δ μ fun d μ1 => y δ μ1 fun e μ2 => r E ((δ.set i (some d)).set j (some e)) μ2) : dSeq (dPar i j (dCons x (dCons y dNil))) r E δ μ := h
/-! lists of whole numbers -/
theorem ints_get {lo : Int} {n i : Nat} {d : D} (h : (intsD lo n)[i]? = some d) : i < n ∧ d = .int (lo + i) := by
  unfold intsD at h
  rw [List.getElem?_map] at h
  obtain ⟨j, hj, rfl⟩ := Option.map_eq_some_iff.mp h
  obtain ⟨hl, e⟩ := List.getElem?_eq_some_iff.mp hj
  rw [List.getElem_range] at e
  subst e
  exact ⟨by simpa using hl, rfl⟩
theorem ints_len (lo : Int) (n : Nat) : (intsD lo n).length = n := by simp [intsD]
theorem map_get {α : Type} {f : α → D} {l : List α} {i : Nat} {d : D} (h : (l.map f)[i]? = some d) : ∃ x, l[i]? = some x ∧ d = f x := by
  rw [List.getElem?_map] at h
  obtain ⟨x, h1, rfl⟩ := Option.map_eq_some_iff.mp h
  exact ⟨x, h1, rfl⟩
theorem plain_ints (k : Nat) (l : List Int) : plainDs k (l.map D.int) = true := by
  induction l with
  | nil => cases k <;> rfl
  | cons x l ih => cases k <;> exact ih
theorem atI_some {α : Type} {l : List α} {x : Int} (x0 : 0 ≤ x) (x1 : x < l.length) : ∃ v, atI l x = some v ∧ l[x.toNat]? = some v := by
  have h : x.toNat < l.length := by omega
  refine ⟨l[x.toNat], ?_, by simp [h]⟩
  have e : ((x.toNat : Nat) : Int) = x := by omega
  have := atI_lt (l := l) (k := x.toNat) (x := l[x.toNat]) (by simp [h])
  rwa [e] at this
/-- an item of a list that stands -/
theorem ixL {μ : Mu} {l : List D} {x : Int} {q : DK} (x0 : 0 ≤ x) (x1 : x < l.length) (k : ∀ v, l[x.toNat]? = some v → q v μ) : rIxG (.lst l) (.int x) μ q := by
  obtain ⟨v, h1, h2⟩ := atI_some x0 x1
  show (match atI l x with | some d => q d μ | none => False)
  rw [h1]; exact k v h2
theorem ixH (μ : Mu) {d : D} {l : List D} {q : DK} (k : q d μ) : rIxG (.lst (d :: l)) (.int 0) μ q := by
  show (match atI (d :: l) 0 with | some d => q d μ | none => False)
  rw [ix0]; exact k
theorem nrm_adr {μ : Mu} {p : Addr} {l : List D} (h : μ p = some (.lst l)) : nrm μ (.adr p) = .lst l := by simp [nrm, h]
theorem nrm_new {μ : Mu} {p : Addr} {l : List D} : nrm (updM μ p (.lst l)) (.adr p) = .lst l := nrm_adr (updM_same _ _ _)
theorem pickL (l : List Int) (P : Int → Prop) (μ : Mu) {x : Int} {q : DK} (x0 : 0 ≤ x) (x1 : x < l.length) (h : ∀ v ∈ l, P v) (k : ∀ v, P v → q (.int v) μ) : rIxG (.lst (l.map D.int)) (.int x) μ q := by
  refine ixL x0 (by simpa using x1) fun v hv => ?_
  obtain ⟨y, h1, rfl⟩ := map_get hv
  exact k y (h y (List.mem_of_getElem? h1))
/-! ### a source of draws, behind at most n draws -/
def Src (p : Addr) (μ : Mu) (n : Int) : Prop := ∃ g s c, μ p = some (.lst [.int g, .int s, .int c]) ∧ 0 ≤ g ∧ 0 ≤ s ∧ s < 2 ^ 62 ∧ 0 ≤ c ∧ c ≤ n
/-- all but p stands as it stood -/
def Ge (p : Addr) (μ μ' : Mu) : Prop := ∀ a m, a ≠ p → μ a = some m → μ' a = some m
theorem Ge.refl {p : Addr} {μ : Mu} : Ge p μ μ := fun _ _ _ h => h
theorem Ge.trans {p : Addr} {μ μ1 μ2 : Mu} (h : Ge p μ μ1) (k : Ge p μ1 μ2) : Ge p μ μ2 := fun a m z e => k a m z (h a m z e)
theorem Ge.upd {p : Addr} {μ : Mu} {m : M} : Ge p μ (updM μ p m) := fun a _ z e => (updM_ne z).trans e
theorem Ge.new {p r : Addr} {μ : Mu} {m : M} (h : μ r = none) : Ge p μ (updM μ r m) := fun a m' z e => by
  have : a ≠ r := fun z => by rw [z, h] at e; cases e
  exact (updM_ne this).trans e
theorem Ge.set {p r : Addr} {μ μ' : Mu} {m : M} (k : Ge p μ μ') (h : μ r = none) : Ge p μ (updM μ' r m) := fun a m' z e => by
  have : a ≠ r := fun z => by rw [z, h] at e; cases e
  exact (updM_ne this).trans (k a m' z e)
theorem Src.ne {p r : Addr} {μ : Mu} {n : Int} (h : Src p μ n) (k : μ r = none) : r ≠ p := fun z => by
  obtain ⟨_, _, _, e, _⟩ := h
  rw [z, e] at k; cases k
theorem Src.le {p : Addr} {μ : Mu} {n m : Int} (h : Src p μ n) (k : n ≤ m) : Src p μ m := by
  obtain ⟨g, s, c, e, a1, a2, a3, a4, a5⟩ := h
  exact ⟨g, s, c, e, a1, a2, a3, a4, by omega⟩
theorem Src.at {p : Addr} {μ μ' : Mu} {n : Int} (h : Src p μ n) (k : μ' p = μ p) : Src p μ' n := by
  obtain ⟨g, s, c, e, r⟩ := h
  exact ⟨g, s, c, k.trans e, r⟩
theorem Src.upd {p r : Addr} {μ : Mu} {n : Int} {m : M} (h : Src p μ n) (k : μ r = none) : Src p (updM μ r m) n := h.at (updM_ne (h.ne k).symm)
theorem cut_mem {l : List D} {lo hi : Option Int} {i : Nat} {d : D} (h : (cutD l lo hi)[i]? = some d) : d ∈ l := by
  have := List.mem_of_getElem? h
  unfold cutD at this
  exact List.mem_of_mem_drop (List.mem_of_mem_take this)
theorem cut_len {l : List D} {lo hi : Option Int} : (cutD l lo hi).length ≤ l.length := by
  unfold cutD; simp only [List.length_take, List.length_drop]; omega
end Law

set_option linter.all false
/-! arithmetic of guards -/
namespace Ar
/-- the first lane, the number of lanes -/
def fst (a c d : Int) : Int := a + (d - a) % c
def cnt (a b c d : Int) : Int := (b - fst a c d + c - 1) / c
theorem fst_ge {a c d : Int} (hc : 0 < c) : a ≤ fst a c d := by
  unfold fst; have := Int.emod_nonneg (d - a) (show c ≠ 0 by omega); omega
theorem fst_lt {a c d : Int} (hc : 0 < c) : fst a c d < a + c := by
  unfold fst; have := Int.emod_lt_of_pos (d - a) hc; omega
theorem fst_mod {a c d : Int} (hc : 0 < c) (h0 : 0 ≤ d) (h1 : d < c) : fst a c d % c = d := by
  unfold fst
  have : (a + (d - a) % c) % c = (a + (d - a)) % c := by rw [Int.add_emod, Int.emod_emod_of_dvd _ (Int.dvd_refl c), ← Int.add_emod]
  rw [this, show a + (d - a) = d by omega, Int.emod_eq_of_lt h0 h1]
/-- a number whose remainder is d lies a multiple of c away from the first lane -/
theorem lane_form {a c d x : Int} (hc : 0 < c) (h0 : 0 ≤ d) (h1 : d < c) (hx : x % c = d) : ∃ k, x = fst a c d + c * k := by
  have h2 := fst_mod (a := a) hc h0 h1
  have : (x - fst a c d) % c = 0 := by rw [Int.sub_emod, hx, h2]; simp
  obtain ⟨k, hk⟩ := Int.dvd_of_emod_eq_zero this
  exact ⟨k, by omega⟩
theorem lane_ge {a c d x : Int} (hc : 0 < c) (h0 : 0 ≤ d) (h1 : d < c) (hx : x % c = d) (ha : a ≤ x) : ∃ k, 0 ≤ k ∧ x = fst a c d + c * k := by
  obtain ⟨k, hk⟩ := lane_form (a := a) hc h0 h1 hx
  refine ⟨k, ?_, hk⟩
  have h3 := fst_lt (a := a) (d := d) hc
  rcases Int.lt_or_le k 0 with h | h
  · have : c * k ≤ c * (-1) := Int.mul_le_mul_of_nonneg_left (by omega) (by omega)
    omega
  · exact h
theorem nth_mod {a c d k : Int} (hc : 0 < c) (h0 : 0 ≤ d) (h1 : d < c) : (fst a c d + k * c) % c = d := by
  rw [Int.add_mul_emod_self_right]; exact fst_mod hc h0 h1
theorem cnt_lt {a b c d k : Int} (hc : 0 < c) (hk : 0 ≤ k) : k < cnt a b c d ↔ fst a c d + k * c < b := by
  unfold cnt
  have h1 := Int.emod_add_mul_ediv (b - fst a c d + c - 1) c
  have h2 := Int.emod_nonneg (b - fst a c d + c - 1) (show c ≠ 0 by omega)
  have h3 := Int.emod_lt_of_pos (b - fst a c d + c - 1) hc
  constructor
  · intro h
    have : c * (k + 1) ≤ c * ((b - fst a c d + c - 1) / c) := Int.mul_le_mul_of_nonneg_left (by omega) (by omega)
    rw [Int.mul_add, Int.mul_one, Int.mul_comm c k] at this
    omega
  · intro h
    rcases Int.lt_or_le k ((b - fst a c d + c - 1) / c) with h4 | h4
    · exact h4
    · have : c * ((b - fst a c d + c - 1) / c) ≤ c * k := Int.mul_le_mul_of_nonneg_left h4 (by omega)
      rw [Int.mul_comm c k] at this
      omega
theorem cnt_nonneg {a b c d : Int} (hc : 0 < c) (hab : a ≤ b) : 0 ≤ cnt a b c d := by
  unfold cnt
  have := fst_lt (a := a) (d := d) hc
  exact Int.ediv_nonneg (by omega) (by omega)
theorem cnt_le {a b c d : Int} (hc : 0 < c) (hab : a ≤ b) : cnt a b c d ≤ b - a := by
  rcases Int.lt_or_le (b - a) (cnt a b c d) with h | h
  · have := (cnt_lt (a := a) (b := b) (d := d) (k := b - a) hc (by omega)).mp h
    have h2 := fst_ge (a := a) (d := d) hc
    have : (b - a) * 1 ≤ (b - a) * c := Int.mul_le_mul_of_nonneg_left (by omega) (by omega)
    omega
  · exact h
/-- uniqueness: what k < N says of every k settles N -/
theorem cnt_unique {a b c d N : Int} (hc : 0 < c) (hab : a ≤ b) (hN : 0 ≤ N) (h : ∀ k, 0 ≤ k → (k < N ↔ fst a c d + k * c < b)) : cnt a b c d = N := by
  have h0 := cnt_nonneg (d := d) hc hab
  rcases Int.lt_trichotomy (cnt a b c d) N with z | z | z
  · have := (cnt_lt (a := a) (b := b) (d := d) hc h0).mpr ((h _ h0).mp z); omega
  · exact z
  · have := (h _ hN).mpr ((cnt_lt (a := a) (b := b) (d := d) hc hN).mp z); omega
/-- an interval cut at m -/
theorem cnt_cut {a b c d m : Int} (hc : 0 < c) (h0 : 0 ≤ d) (h1 : d < c) (ha : a ≤ m) (hb : m ≤ b) : cnt a m c d + cnt m b c d = cnt a b c d := by
  -- the first lane from m on is that of a, so many steps on as there are lanes ahead of m
  have hn := cnt_nonneg (d := d) hc ha
  have e : fst m c d = fst a c d + cnt a m c d * c := by
    obtain ⟨k, hk0, hk⟩ := lane_ge (a := a) hc h0 h1 (fst_mod (a := m) hc h0 h1) (Int.le_trans ha (fst_ge hc))
    have l1 : ¬ k < cnt a m c d := fun z => by
      have := (cnt_lt (a := a) (b := m) (d := d) hc hk0).mp z
      have g := fst_ge (a := m) (d := d) hc
      rw [Int.mul_comm c k] at hk
      omega
    have l2 : ¬ cnt a m c d < k := fun z => by
      have z1 : ¬ cnt a m c d < cnt a m c d := by omega
      have z2 : ¬ fst a c d + cnt a m c d * c < m := fun z => z1 ((cnt_lt (a := a) (b := m) (d := d) hc hn).mpr z)
      have g := fst_lt (a := m) (d := d) hc
      have : (cnt a m c d + 1) * c ≤ k * c := Int.mul_le_mul_of_nonneg_right (by omega) (by omega)
      rw [Int.add_mul, Int.one_mul] at this
      rw [Int.mul_comm c k] at hk
      omega
    have : k = cnt a m c d := by omega
    rw [hk, this, Int.mul_comm]
  have hm := cnt_nonneg (d := d) hc hb
  refine (cnt_unique hc (by omega) (by omega) fun k hk => ?_).symm
  rcases Int.lt_or_le k (cnt a m c d) with z | z
  · have := (cnt_lt (a := a) (b := m) (d := d) hc hk).mp z
    constructor <;> intro <;> omega
  · have q := cnt_lt (a := m) (b := b) (d := d) (k := k - cnt a m c d) hc (by omega)
    rw [e, Int.sub_mul] at q
    constructor
    · intro h; have := q.mp (by omega); omega
    · intro h; have := q.mpr (by omega); omega
end Ar

set_option linter.all false
set_option maxRecDepth 100000
set_option maxHeartbeats 1000000
namespace Law
open PySem L2 DL Ar
@[reducible] def gd (a b c d : Int) : D := .tup [.int a, .int b, .int c, .int d]
def isG (a b c d : Int) : Bool := (decide (0 ≤ a) && decide (a ≤ b)) && (decide (0 ≤ d) && decide (d < c))
theorem isG_iff {a b c d : Int} : isG a b c d = true ↔ 0 ≤ a ∧ a ≤ b ∧ 0 ≤ d ∧ d < c := by simp [isG, and_assoc]
def lane (a b c d x : Int) : Prop := a ≤ x ∧ x < b ∧ x % c = d
instance (a b c d x : Int) : Decidable (lane a b c d x) := by unfold lane; infer_instance
def c_is_guard (A : Cls) : DSp := fun ds μ q e => ∃ a b c d, ds = [gd a b c d] ∧ q (.bl (isG a b c d)) μ
theorem len_is_guard {A : Cls} : ∀ ds μ q e, c_is_guard A ds μ q e → ds.length = 1 := fun ds μ q e ⟨_, _, _, _, h, _⟩ => by rw [h]; rfl
theorem ok_is_guard {A : Cls} : ∀ ds μ q e, c_is_guard A ds μ q e → rd_is_guard A e (endsD q) (startD 5 ds) μ := by
  rintro ds μ q e ⟨a, b, c, d, rfl, h⟩
  refine ⟨rfl, ?_⟩
  have key : ∀ x : Bool, isG a b c d = x → ∃ μ2, Sub μ2 μ ∧ q (.bl x) μ2 := fun x e => fin (e ▸ h) rfl
  refine iteD (fun z1 => ?_) (fun z1 => ?_)
  · refine iteD (fun z2 => ?_) (fun z2 => ?_)
    · refine iteD (fun z3 => ?_) (fun z3 => ?_)
      · exact key _ (by simp [isG, z1, z2, z3])
      · exact key _ (by simp [isG, z1, z2, z3])
    · exact key _ (by simp [isG, z1, z2])
  · exact key _ (by simp [isG, z1])
end Law

set_option linter.all false
set_option maxRecDepth 100000
set_option maxHeartbeats 1000000
/-! kernels: names, statements, barriers, Kernel's own -/
namespace Law
open PySem L2 DL Ar
def sgOk (c : Nat) : Bool := !decide ((⟨#[c]⟩ : Str).cps.toList < ("a" : Str).cps.toList) && !decide (("z" : Str).cps.toList < (⟨#[c]⟩ : Str).cps.toList)
def nmOk (z : Str) : Bool := decide ((1 : Int) ≤ (z.length : Nat)) && decide (((z.length : Nat) : Int) ≤ 8) && z.cps.toList.all sgOk
theorem chain_le {a b : Bool} {q : DK} {μ : Mu} (h : q (.bl (a && b)) μ) : if a = true then q (.bl b) μ else q (.bl false) μ := by
  cases a <;> exact h
def c_is_array_name (A : Cls) : DSp := fun ds μ q e => ∃ z : Str, ds = [.str z] ∧ z.length ≤ 1000 ∧ q (.bl (nmOk z)) μ
theorem len_is_array_name {A : Cls} : ∀ ds μ q e, c_is_array_name A ds μ q e → ds.length = 1 := fun ds μ q e ⟨_, h, _⟩ => by rw [h]; rfl
theorem str_len (z : Str) : z.length = z.cps.toList.length := rfl
theorem ok_is_array_name {A : Cls} : ∀ ds μ q e, c_is_array_name A ds μ q e → rd_is_array_name A e (endsD q) (startD 2 ds) μ := by
  rintro ds μ q e ⟨z, rfl, hz, h⟩
  refine ⟨by rw [sizeLine_eq]; omega, ?_⟩
  have all : ∀ q2 : DK, q2 (.bl (z.cps.toList.all sgOk)) μ → (dCB rAllD (dCons (dLc (diSq (dVar 0)) (dgName 1) dYes (dChain rLeX rLeX (dC (.str "a")) (dVar 1) (dC (.str "z"))) [1]) dNil)) (startD 2 [.str z]) μ q2 := fun q2 k => by
    refine ⟨fun i l μ' => μ' = μ ∧ l = ((z.cps.toList.take i).map sgOk).map D.bl, ⟨rfl, rfl⟩, fun i l μ' hi hP => ⟨trivial, ?_⟩, ?_, ?_⟩
    · rw [hP.2, List.length_map, List.length_map, List.length_take, sizeLine_eq]
      rw [str_len] at hz
      omega
    · rintro i d l μ' hi ⟨rfl, rfl⟩
      unfold sgs at hi
      obtain ⟨c, hc, rfl⟩ := map_get hi
      have step : ∀ y : D, y = .bl (sgOk c) → μ' = μ' ∧ ((z.cps.toList.take i).map sgOk).map D.bl ++ [y] = ((z.cps.toList.take (i + 1)).map sgOk).map D.bl := fun y e => by
        refine ⟨rfl, ?_⟩
        rw [List.take_add_one, hc, List.map_append, List.map_append, e]
        rfl
      refine iteB (fun h1 => step _ ?_) (fun h1 => step _ ?_)
      · unfold sgOk
        rw [show (!decide ((⟨#[c]⟩ : Str).cps.toList < ("a" : Str).cps.toList)) = true from h1]; rfl
      · unfold sgOk
        rw [show (!decide ((⟨#[c]⟩ : Str).cps.toList < ("a" : Str).cps.toList)) = false from h1]; rfl
    · rintro l μ' ⟨rfl, rfl⟩
      refine ⟨_, rfl, ?_⟩
      have e : (z.cps.toList.take (sgs z).length).map sgOk = z.cps.toList.map sgOk := by
        rw [show (sgs z).length = z.cps.toList.length by simp [sgs], List.take_length]
      rw [e, List.all_map]
      exact k
  have e0 : ∀ b : Bool, nmOk z = b → q (.bl b) μ := fun b e => e ▸ h
  refine iteD (fun h1 => ?_) (fun h1 => ?_)
  · by_cases h2 : ((z.length : Nat) : Int) ≤ 8
    · refine iteDT h2 ?_
      refine all _ ?_
      refine fin (e0 _ ?_) rfl
      unfold nmOk
      rw [decide_eq_true h1, decide_eq_true h2]; rfl
    · refine iteDF h2 ?_
      refine fin (e0 false ?_) (congrArg D.bl (decide_eq_false h2))
      unfold nmOk
      rw [decide_eq_false h2, Bool.and_false]; rfl
  · refine fin (e0 false ?_) rfl
    unfold nmOk
    rw [decide_eq_false h1]; rfl
/-! ### statements -/
structure G4 where
  a : Int
  b : Int
  c : Int
  d : Int
@[reducible] def G4.D (g : G4) : D := gd g.a g.b g.c g.d
def G4.ok (g : G4) : Bool := isG g.a g.b g.c g.d
inductive St where
  | put (g : G4) (nm : Str) (a b c d : Int)
  | move (g : G4) (nm : Str) (a b : Int) (src : Str) (a2 b2 d : Int)
  | sum (g : G4) (nm : Str) (a b : Int) (src : Str) (a2 b2 : Int) (oth : Str) (a3 b3 : Int)
def St.d : St → D
  | .put g nm a b c d => .tup [.str "put", g.D, .str nm, .int a, .int b, .int c, .int d]
  | .move g nm a b src a2 b2 d => .tup [.str "move", g.D, .str nm, .int a, .int b, .str src, .int a2, .int b2, .int d]
  | .sum g nm a b src a2 b2 oth a3 b3 => .tup [.str "sum", g.D, .str nm, .int a, .int b, .str src, .int a2, .int b2, .str oth, .int a3, .int b3]
def St.g : St → G4
  | .put g .. => g
  | .move g .. => g
  | .sum g .. => g
def St.nms : St → List Str
  | .put _ nm .. => [nm]
  | .move _ nm _ _ src .. => [nm, src]
  | .sum _ nm _ _ src _ _ oth .. => [nm, src, oth]
def St.ok (s : St) (N : Int) : Bool := s.nms.all nmOk && (s.g.ok && decide (s.g.b ≤ N))
def St.short (s : St) : Prop := ∀ z ∈ s.nms, z.length ≤ 1000
def c_is_statement (A : Cls) : DSp := fun ds μ q e => ∃ (s : St) (N : Int), ds = [s.d, .int N] ∧ s.short ∧ q (.bl (s.ok N)) μ
theorem len_is_statement {A : Cls} : ∀ ds μ q e, c_is_statement A ds μ q e → ds.length = 2 := fun ds μ q e ⟨_, _, h, _⟩ => by rw [h]; rfl
/-- behind the names: the guard -/
theorem st_tail {A : Cls} {s : St} {N : Int} {μ : Mu} {q : DK} {e : DX} {x2 x4 : Option D} (h : q (.bl (s.g.ok && decide (s.g.b ≤ N))) μ) :
    dRet (dAndT (dCall (c_is_guard A) e [] (dCons (dVar 3) dNil)) (dOp rLeX (dOp rIxG (dVar 3) (dC (.int 1))) (dVar 1))) (endsD q) [some s.d, some (.int N), x2, some s.g.D, x4] μ := by
  refine ⟨s.g.a, s.g.b, s.g.c, s.g.d, rfl, ?_⟩
  have e1 : isG s.g.a s.g.b s.g.c s.g.d = s.g.ok := rfl
  rw [e1]
  cases hg : s.g.ok with
  | true => rw [hg] at h; exact fin h rfl
  | false => rw [hg] at h; exact fin h rfl
theorem ok_is_statement {A : Cls} : ∀ ds μ q e, c_is_statement A ds μ q e → rd_is_statement A (c_is_array_name A) (c_is_guard A) e (endsD q) (startD 5 ds) μ := by
  rintro ds μ q e ⟨s, N, rfl, hs, h⟩
  cases s with
  | put g nm a b c d =>
    refine ⟨rfl, .inl ⟨_, rfl, ?_⟩⟩
    refine ⟨rfl, _, rfl, ?_⟩
    refine ⟨rfl, _, rfl, ?_⟩
    refine ⟨fun i l μ' => μ' = μ ∧ l = (([nm].take i).map nmOk).map D.bl, ⟨rfl, rfl⟩, fun i l μ' hi hP => ⟨trivial, ?_⟩, ?_, ?_⟩
    · rw [hP.2, List.length_map, List.length_map, List.length_take, sizeLine_eq]; simp only [List.length_cons, List.length_nil]; omega
    · rintro i x l μ' hi ⟨rfl, rfl⟩
      match i, hi with
      | 0, hi =>
        obtain rfl : D.int 2 = x := by simpa using hi
        exact ⟨nm, rfl, hs nm (by simp [St.nms]), rfl, rfl⟩
      | i + 1, hi => simp at hi
    · rintro l μ' ⟨rfl, rfl⟩
      refine ⟨_, rfl, ?_⟩
      have en : (([nm].take 1).map nmOk).all id = nmOk nm := by simp
      cases hn : nmOk nm with
      | true =>
        have e2 : (St.put g nm a b c d).ok N = (g.ok && decide (g.b ≤ N)) := by
          simp only [St.ok, St.nms, St.g, List.all_cons, List.all_nil, Bool.and_true, hn, Bool.true_and]
          rfl
        rw [e2] at h
        refine iteF (by show (!((([nm].take 1).map nmOk).all id)) = false; rw [en, hn]; rfl) ?_
        exact st_tail (A := A) (e := e) (s := .put g nm a b c d) h
      | false =>
        have e2 : (St.put g nm a b c d).ok N = false := by simp [St.ok, St.nms, St.g, hn]
        rw [e2] at h
        refine iteT (by show (!((([nm].take 1).map nmOk).all id)) = true; rw [en, hn]; rfl) ?_
        exact fin h rfl
  | move g nm a b src a2 b2 d =>
    refine ⟨rfl, .inl ⟨_, rfl, ?_⟩⟩
    refine ⟨rfl, _, rfl, ?_⟩
    refine ⟨rfl, _, rfl, ?_⟩
    refine ⟨fun i l μ' => μ' = μ ∧ l = (([nm, src].take i).map nmOk).map D.bl, ⟨rfl, rfl⟩, fun i l μ' hi hP => ⟨trivial, ?_⟩, ?_, ?_⟩
    · rw [hP.2, List.length_map, List.length_map, List.length_take, sizeLine_eq]; simp only [List.length_cons, List.length_nil]; omega
    · rintro i x l μ' hi ⟨rfl, rfl⟩
      match i, hi with
      | 0, hi =>
        obtain rfl : D.int 2 = x := by simpa using hi
        exact ⟨nm, rfl, hs nm (by simp [St.nms]), rfl, rfl⟩
      | 1, hi =>
        obtain rfl : D.int 5 = x := by simpa using hi
        exact ⟨src, rfl, hs src (by simp [St.nms]), rfl, rfl⟩
      | i + 2, hi => simp at hi
    · rintro l μ' ⟨rfl, rfl⟩
      refine ⟨_, rfl, ?_⟩
      have en : (([nm, src].take 2).map nmOk).all id = (nmOk nm && nmOk src) := by simp
      cases hn : (nmOk nm && nmOk src) with
      | true =>
        have e2 : (St.move g nm a b src a2 b2 d).ok N = (g.ok && decide (g.b ≤ N)) := by simp only [St.ok, St.nms, St.g, List.all_cons, List.all_nil, Bool.and_true, hn, Bool.true_and]; rfl
        rw [e2] at h
        refine iteF (by show (!((([nm, src].take 2).map nmOk).all id)) = false; rw [en, hn]; rfl) ?_
        exact st_tail (A := A) (e := e) (s := .move g nm a b src a2 b2 d) h
      | false =>
        have e2 : (St.move g nm a b src a2 b2 d).ok N = false := by simp only [St.ok, St.nms, St.g, List.all_cons, List.all_nil, Bool.and_true, hn, Bool.false_and]
        rw [e2] at h
        refine iteT (by show (!((([nm, src].take 2).map nmOk).all id)) = true; rw [en, hn]; rfl) ?_
        exact fin h rfl
  | sum g nm a b src a2 b2 oth a3 b3 =>
    refine ⟨rfl, .inl ⟨_, rfl, ?_⟩⟩
    refine ⟨rfl, _, rfl, ?_⟩
    refine ⟨rfl, _, rfl, ?_⟩
    refine ⟨fun i l μ' => μ' = μ ∧ l = (([nm, src, oth].take i).map nmOk).map D.bl, ⟨rfl, rfl⟩, fun i l μ' hi hP => ⟨trivial, ?_⟩, ?_, ?_⟩
    · rw [hP.2, List.length_map, List.length_map, List.length_take, sizeLine_eq]; simp only [List.length_cons, List.length_nil]; omega
    · rintro i x l μ' hi ⟨rfl, rfl⟩
      match i, hi with
      | 0, hi =>
        obtain rfl : D.int 2 = x := by simpa using hi
        exact ⟨nm, rfl, hs nm (by simp [St.nms]), rfl, rfl⟩
      | 1, hi =>
        obtain rfl : D.int 5 = x := by simpa using hi
        exact ⟨src, rfl, hs src (by simp [St.nms]), rfl, rfl⟩
      | 2, hi =>
        obtain rfl : D.int 8 = x := by simpa using hi
        exact ⟨oth, rfl, hs oth (by simp [St.nms]), rfl, rfl⟩
      | i + 3, hi => simp at hi
    · rintro l μ' ⟨rfl, rfl⟩
      refine ⟨_, rfl, ?_⟩
      have en : (([nm, src, oth].take 3).map nmOk).all id = (nmOk nm && (nmOk src && nmOk oth)) := by simp
      cases hn : (nmOk nm && (nmOk src && nmOk oth)) with
      | true =>
        have e2 : (St.sum g nm a b src a2 b2 oth a3 b3).ok N = (g.ok && decide (g.b ≤ N)) := by simp only [St.ok, St.nms, St.g, List.all_cons, List.all_nil, Bool.and_true, hn, Bool.true_and]; rfl
        rw [e2] at h
        refine iteF (by show (!((([nm, src, oth].take 3).map nmOk).all id)) = false; rw [en, hn]; rfl) ?_
        exact st_tail (A := A) (e := e) (s := .sum g nm a b src a2 b2 oth a3 b3) h
      | false =>
        have e2 : (St.sum g nm a b src a2 b2 oth a3 b3).ok N = false := by simp only [St.ok, St.nms, St.g, List.all_cons, List.all_nil, Bool.and_true, hn, Bool.false_and]
        rw [e2] at h
        refine iteT (by show (!((([nm, src, oth].take 3).map nmOk).all id)) = true; rw [en, hn]; rfl) ?_
        exact fin h rfl
end Law

set_option linter.all false
set_option maxRecDepth 100000
set_option maxHeartbeats 1000000
/-! Kernel: made, its lanes, statements, length -/
namespace Law
open PySem L2 DL Ar
def c_check_lanes (A : Cls) : DSp := fun ds μ q e => ∃ N, ds = [.int N] ∧ if N < 1 then e A.InvalidLanes (.int N) μ else q .non μ
theorem len_check_lanes {A : Cls} : ∀ ds μ q e, c_check_lanes A ds μ q e → ds.length = 1 := fun ds μ q e ⟨_, h, _⟩ => by rw [h]; rfl
theorem ok_check_lanes {A : Cls} : ∀ ds μ q e, c_check_lanes A ds μ q e → rd_check_lanes A e (endsD q) (startD 1 ds) μ := by
  rintro ds μ q e ⟨N, rfl, h⟩
  refine iteD (fun z => ?_) (fun z => ?_)
  · rw [if_pos z] at h; exact h
  · rw [if_neg z] at h; exact fin h rfl
def c_check_statement (A : Cls) : DSp := fun ds μ q e => ∃ (s : St) (i : Int) (N : Int), ds = [s.d, .int i, .int N] ∧ s.short ∧ if s.ok N = true then q .non μ else e A.InvalidStatement (.int i) μ
theorem len_check_statement {A : Cls} : ∀ ds μ q e, c_check_statement A ds μ q e → ds.length = 3 := fun ds μ q e ⟨_, _, _, h, _⟩ => by rw [h]; rfl
theorem ok_check_statement {A : Cls} : ∀ ds μ q e, c_check_statement A ds μ q e → rd_check_statement A (c_is_statement A) e (endsD q) (startD 3 ds) μ := by
  rintro ds μ q e ⟨s, i, N, rfl, hs, h⟩
  refine ⟨s, N, rfl, hs, ?_⟩
  cases hk : s.ok N with
  | true => rw [hk] at h; exact fin h rfl
  | false => rw [hk] at h; exact h
/-- ascending barriers, from a place on -/
def brOk (many : Int) : Int → List Int → Prop
  | _, [] => True
  | bf, b :: r => bf < b ∧ b < many ∧ brOk many b r
theorem enum_get {l : List D} {i : Nat} {d : D} (h : (enumD 0 l)[i]? = some d) : ∃ x, l[i]? = some x ∧ d = .tup [.int (i : Nat), x] := by
  cases e : l[i]? with
  | none =>
    have h1 : l.length ≤ i := List.getElem?_eq_none_iff.mp e
    rw [List.getElem?_eq_none_iff.mpr (by rw [enumD_len]; exact h1)] at h
    cases h
  | some x =>
    have := enumD_get (k := 0) e
    rw [this, Nat.zero_add] at h
    exact ⟨x, rfl, (Option.some.inj h).symm⟩
/-- a list that may be walked -/
def seqD : D → List D → Prop := fun d l => d = .tup l ∨ d = .lst l
theorem for_seq {te : DTA} {g : DTG} {tb : DTS} {E : DEnds} {δ : DS} {μ : Mu} {d : D} {l : List D} (hs : seqD d l) (ht : ∀ q : List D → Mu → Prop, q [d] μ → te δ μ q)
    (P : Nat → DS → Mu → Prop) (p0 : P 0 δ μ) (step : ∀ i x δ μ, l[i]? = some x → P i δ μ → g (.tup [.int (i : Nat), x]) δ μ fun δ2 μ2 => tb { E with nx := P (i + 1), ct := P (i + 1), bk := E.nx } δ2 μ2) (done : ∀ δ μ, P l.length δ μ → E.nx δ μ) :
    dFor (diEnX te) g tb E δ μ := by
  have core : ∃ P : Nat → DS → Mu → Prop, P 0 δ μ ∧ (∀ i δ μ, i ≤ (enumD 0 l).length → P i δ μ → True) ∧
      (∀ i d δ μ, (enumD 0 l)[i]? = some d → P i δ μ → g d δ μ fun δ2 μ2 => tb { E with nx := P (i + 1), ct := P (i + 1), bk := E.nx } δ2 μ2) ∧ ∀ δ μ, P (enumD 0 l).length δ μ → E.nx δ μ := by
    refine ⟨P, p0, fun _ _ _ _ _ => trivial, fun i d δ μ hi hp => ?_, fun δ μ hp => done δ μ (by rw [enumD_len] at hp; exact hp)⟩
    obtain ⟨x, hx, rfl⟩ := enum_get hi
    exact step i x δ μ hx hp
  refine ht _ ?_
  rcases hs with rfl | rfl
  · exact core
  · exact core
/-- .. also one that is written, which stands still while it is walked -/
def seqM (μ : Mu) (d : D) (l : List D) : Prop := seqD d l ∨ ∃ r, d = .adr r ∧ μ r = some (.lst l)
theorem for_seqM {te : DTA} {g : DTG} {tb : DTS} {E : DEnds} {δ : DS} {μ : Mu} {d : D} {l : List D} (hs : seqM μ d l) (ht : ∀ q : List D → Mu → Prop, q [d] μ → te δ μ q)
    (P : Nat → DS → Mu → Prop) (pk : ∀ i δ μ', P i δ μ' → μ' = μ) (p0 : P 0 δ μ) (step : ∀ i x δ μ, l[i]? = some x → P i δ μ → g (.tup [.int (i : Nat), x]) δ μ fun δ2 μ2 => tb { E with nx := P (i + 1), ct := P (i + 1), bk := E.nx } δ2 μ2) (done : ∀ δ μ, P l.length δ μ → E.nx δ μ) :
    dFor (diEnX te) g tb E δ μ := by
  rcases hs with hs | ⟨r, rfl, hr⟩
  · exact for_seq hs ht P p0 step done
  · refine ht _ ⟨l, hr, P, p0, fun i δ μ' _ hp => by rw [pk i δ μ' hp]; exact hr, fun i d δ μ hi hp => ?_, fun δ μ hp => done δ μ (by rw [enumD_len] at hp; exact hp)⟩
    obtain ⟨x, hx, rfl⟩ := enum_get hi
    exact step i x δ μ hx hp
def c_check_barriers (A : Cls) : DSp := fun ds μ q e => ∃ (y : D) (bs : List Int) (many : Int), ds = [y, .int many] ∧ seqM μ y (bs.map D.int) ∧ brOk many 0 bs ∧ q .non μ
theorem len_check_barriers {A : Cls} : ∀ ds μ q e, c_check_barriers A ds μ q e → ds.length = 2 := fun ds μ q e ⟨_, _, _, h, _⟩ => by rw [h]; rfl
theorem drop_get {α : Type} {l : List α} {i : Nat} {b : α} (h : l[i]? = some b) : l.drop i = b :: l.drop (i + 1) := by
  obtain ⟨hl, e⟩ := List.getElem?_eq_some_iff.mp h
  rw [List.drop_eq_getElem_cons hl, e]
theorem ok_check_barriers {A : Cls} : ∀ ds μ q e, c_check_barriers A ds μ q e → rd_check_barriers A e (endsD q) (startD 5 ds) μ := by
  rintro ds μ q e ⟨y, bs, many, rfl, hy, hb, h⟩
  refine for_seqM (te := dCons (dVar 0) dNil) hy ?ht (fun i δ μ' => μ' = μ ∧ ∃ bf t u, δ = [some y, some (.int many), some (.int bf), t, u] ∧ brOk many bf (bs.drop i)) (fun _ _ _ h => h.1) ⟨rfl, 0, none, none, rfl, hb⟩ ?_ ?_
  case ht => exact fun q k => k
  · rintro i x δ μ' hi ⟨rfl, bf, t, u, rfl, hk⟩
    obtain ⟨b, hb', rfl⟩ := map_get hi
    rw [drop_get hb'] at hk
    obtain ⟨k1, k2, k3⟩ := hk
    refine ⟨rfl, ?_⟩
    refine iteDF (by omega) ?_
    refine iteDF (by omega) ?_
    exact ⟨rfl, b, _, _, rfl, k3⟩
  · rintro δ μ' ⟨rfl, bf, t, u, rfl, _⟩
    exact fin h rfl
def kns : List Str := ["_lanes", "_statements", "_barriers", "_racing"]
def kD (A : Cls) (N : Int) (ss : List St) (bs : List Int) : D := .ins A.Kernel kns [.int N, .lst (ss.map St.d), .lst (bs.map D.int), .non]
/-- statements, barriers of a kernel -/
def kOk (N : Int) (ss : List St) (bs : List Int) : Prop := 1 ≤ N ∧ (∀ s ∈ ss, s.ok N = true ∧ s.short) ∧ ss.length ≤ 1000 ∧ bs.length ≤ 1000 ∧ brOk (ss.length : Nat) 0 bs
def c_Kernel___init__ (A : Cls) : DSp := fun ds μ q e => ∃ (p : Addr) (N : Int) (x y : D) (ss : List St) (bs : List Int), ds = [.adr p, .int N, x, y] ∧ μ p = some (.obj A.Kernel [] []) ∧ seqM μ x (ss.map St.d) ∧ seqM μ y (bs.map D.int) ∧ kOk N ss bs ∧
  q .non (updM μ p (.obj A.Kernel kns [.int N, .lst (ss.map St.d), .lst (bs.map D.int), .non]))
theorem len_Kernel___init__ {A : Cls} : ∀ ds μ q e, c_Kernel___init__ A ds μ q e → ds.length = 4 := fun ds μ q e ⟨_, _, _, _, _, _, h, _⟩ => by rw [h]; rfl
theorem ne_ls : ¬ (("_lanes" : Str) = "_statements") := by decide +kernel
theorem ne_lb : ¬ (("_lanes" : Str) = "_barriers") := by decide +kernel
theorem ne_sb : ¬ (("_statements" : Str) = "_barriers") := by decide +kernel
theorem ne_lr : ¬ (("_lanes" : Str) = "_racing") := by decide +kernel
theorem ne_sr : ¬ (("_statements" : Str) = "_racing") := by decide +kernel
theorem ne_br : ¬ (("_barriers" : Str) = "_racing") := by decide +kernel
theorem put1 (x : D) : putN "_lanes" x [] [] = ([("_lanes" : Str)], [x]) := rfl
theorem put2 (x y : D) : putN "_statements" y [("_lanes" : Str)] [x] = ([("_lanes" : Str), "_statements"], [x, y]) := by
  simp only [putN, if_neg ne_ls]
theorem put3 (x y z : D) : putN "_barriers" z [("_lanes" : Str), "_statements"] [x, y] = ([("_lanes" : Str), "_statements", "_barriers"], [x, y, z]) := by
  simp only [putN, if_neg ne_lb, if_neg ne_sb]
theorem put4 (x y z u : D) : putN "_racing" u [("_lanes" : Str), "_statements", "_barriers"] [x, y, z] = (kns, [x, y, z, u]) := by
  simp only [putN, if_neg ne_lr, if_neg ne_sr, if_neg ne_br]; rfl
theorem lt1 (x : D) : (putN "_lanes" x [] []).1.length < 1000 := (by decide : 1 < 1000)
theorem lt2 (x y : D) : (putN "_statements" y (putN "_lanes" x [] []).1 (putN "_lanes" x [] []).2).1.length < 1000 := by
  rw [put1, put2]; exact (by decide : 2 < 1000)
theorem lt3 (x y z : D) : (putN "_barriers" z (putN "_statements" y (putN "_lanes" x [] []).1 (putN "_lanes" x [] []).2).1 (putN "_statements" y (putN "_lanes" x [] []).1 (putN "_lanes" x [] []).2).2).1.length < 1000 := by
  rw [put1, put2, put3]; exact (by decide : 3 < 1000)
theorem seq_of {μ : Mu} {d : D} {l : List D} (h : seqM μ d l) : seqOf μ d = some l := by
  rcases h with (rfl | rfl) | ⟨r, rfl, h⟩
  · rfl
  · rfl
  · simp [seqOf, lstOf, h]
theorem list_of {μ : Mu} {d : D} {l : List D} {q : DK} (h : seqM μ d l) (k : q (.lst l) μ) : rListD [d] μ q := by
  show (match seqOf μ d with | some l => q (.lst l) μ | none => False)
  rw [seq_of h]
  exact k
theorem len_of {μ : Mu} {d : D} {l : List D} {q : DK} (h : seqM μ d l) (k : q (.int (l.length : Nat)) μ) : rLenD [d] μ q := by
  rcases h with (rfl | rfl) | ⟨r, rfl, h⟩
  · exact k
  · exact k
  · show (match lstOf μ (.adr r) with | some l => q (.int (l.length : Int)) μ | none => False)
    rw [show lstOf μ (.adr r) = some l by simp [lstOf, h]]
    exact k
theorem seqM.new {μ : Mu} {d : D} {l : List D} {p : Addr} {m : M} (h : seqM μ d l) (hp : μ p = none) : seqM (updM μ p m) d l := by
  rcases h with h | ⟨r, rfl, h⟩
  · exact .inl h
  · refine .inr ⟨r, rfl, ?_⟩
    have : r ≠ p := fun z => by rw [z, hp] at h; cases h
    rw [updM_ne this]; exact h
theorem seqM.upd {μ : Mu} {d : D} {l : List D} {p : Addr} {m : M} {C : Addr} {f : List Str} {v : List D} (h : seqM μ d l) (hp : μ p = some (.obj C f v)) : seqM (updM μ p m) d l := by
  rcases h with h | ⟨r, rfl, h⟩
  · exact .inl h
  · refine .inr ⟨r, rfl, ?_⟩
    have : r ≠ p := fun z => by rw [z, hp] at h; cases h
    rw [updM_ne this]; exact h
theorem ok_Kernel___init__ {A : Cls} : ∀ ds μ q e, c_Kernel___init__ A ds μ q e → rd_Kernel___init__ A (c_check_barriers A) (c_check_lanes A) (c_check_statement A) e (endsD q) (startD 6 ds) μ := by
  rintro ds μ q e ⟨p, N, x, y, ss, bs, rfl, hp, hx, hy, ⟨hN, hss, hl, hl2, hb⟩, h⟩
  refine ⟨N, rfl, ?_⟩
  rw [if_neg (by omega)]
  refine for_seqM (te := dCons (dVar 2) dNil) hx ?ht (fun i δ μ' => μ' = μ ∧ ∃ t u, δ = [some (.adr p), some (.int N), some x, some y, t, u]) (fun _ _ _ h => h.1) ⟨rfl, none, none, rfl⟩ ?_ ?_
  case ht => exact fun q k => k
  · rintro i z δ μ' hi ⟨rfl, t, u, rfl⟩
    obtain ⟨s, hs, rfl⟩ := map_get hi
    obtain ⟨h1, h2⟩ := hss s (List.mem_of_getElem? hs)
    refine ⟨rfl, s, _, N, rfl, h2, ?_⟩
    rw [if_pos h1]
    exact ⟨rfl, _, _, rfl⟩
  · rintro δ μ' ⟨rfl, t, u, rfl⟩
    have hb' : brOk (((ss.map St.d).length : Nat) : Int) 0 bs := by rw [List.length_map]; exact hb
    have fin3 : ∃ μ2, Sub μ2 (updM (updM (updM (updM μ' p (.obj A.Kernel ["_lanes"] [.int N])) p (.obj A.Kernel ["_lanes", "_statements"] [.int N, .lst (ss.map St.d)])) p (.obj A.Kernel ["_lanes", "_statements", "_barriers"] [.int N, .lst (ss.map St.d), .lst (bs.map D.int)])) p (.obj A.Kernel kns [.int N, .lst (ss.map St.d), .lst (bs.map D.int), .non])) ∧ q .non μ2 := by
      rw [updM_updM, updM_updM, updM_updM]
      exact ⟨_, Sub.refl _, h⟩
    have s2 : putN "_statements" (.lst (ss.map St.d)) [("_lanes" : Str)] [D.int N] = ([("_lanes" : Str), "_statements"], [.int N, .lst (ss.map St.d)]) := put2 _ _
    have s3 : putN "_barriers" (.lst (bs.map D.int)) [("_lanes" : Str), "_statements"] [D.int N, .lst (ss.map St.d)] = ([("_lanes" : Str), "_statements", "_barriers"], [.int N, .lst (ss.map St.d), .lst (bs.map D.int)]) := put3 _ _ _
    have s4 : putN "_racing" .non [("_lanes" : Str), "_statements", "_barriers"] [D.int N, .lst (ss.map St.d), .lst (bs.map D.int)] = (kns, [.int N, .lst (ss.map St.d), .lst (bs.map D.int), .non]) := put4 _ _ _ _
    dsimp only [dSeq, dDrop, dCall, dCons, dCB, dVar, dNil, List.getElem?_cons_zero, List.getElem?_cons_succ]
    refine len_of hx ?_
    refine ⟨y, bs, _, rfl, hy, hb', ?_⟩
    refine ⟨[], [], hp, by decide, ?_⟩
    dsimp only [dSeq, dsFld, dDrop, dCall, dCons, dCB, dVar, dNil, List.getElem?_cons_zero, List.getElem?_cons_succ]
    refine list_of (hx.upd hp) ?_
    refine ⟨_, _, updM_same _ _ _, lt1 _, ?_⟩
    refine list_of ((hy.upd hp).upd (updM_same _ _ _)) ?_
    refine ⟨_, _, updM_same _ _ _, lt2 _ _, ?_⟩
    refine ⟨_, _, updM_same _ _ _, lt3 _ _ _, ?_⟩
    rw [put1, s2, s3, s4]
    exact fin3
theorem kfld {A : Cls} {N : Int} {ss : List St} {bs : List Int} {f : Str} {d : D} (h : (kns.zip [D.int N, .lst (ss.map St.d), .lst (bs.map D.int), .non]).lookup f = some d) {δ : DS} {μ : Mu} {q : DK} {te : DTE} (ht : ∀ q : DK, q (kD A N ss bs) μ → te δ μ q) (k : q d μ) : dFld A.Kernel f te δ μ q :=
  ht _ ⟨rfl, d, h, k⟩
/-- frozen or to be written, as the caller wants it -/
def Ei (q : DK) (l : List D) (μ : Mu) : Prop := q (.lst l) μ ∨ ∀ p, μ p = none → q (.adr p) (updM μ p (.lst l))
def c_Kernel_lanes (A : Cls) : DSp := fun ds μ q e => ∃ N ss bs, ds = [kD A N ss bs] ∧ q (.int N) μ
theorem len_Kernel_lanes {A : Cls} : ∀ ds μ q e, c_Kernel_lanes A ds μ q e → ds.length = 1 := fun ds μ q e ⟨_, _, _, h, _⟩ => by rw [h]; rfl
theorem ok_Kernel_lanes {A : Cls} : ∀ ds μ q e, c_Kernel_lanes A ds μ q e → rd_Kernel_lanes A e (endsD q) (startD 1 ds) μ := by
  rintro ds μ q e ⟨N, ss, bs, rfl, h⟩
  exact ⟨rfl, _, rfl, fin h rfl⟩
def c_Kernel_statements (A : Cls) : DSp := fun ds μ q e => ∃ N ss bs, ds = [kD A N ss bs] ∧ Ei q (ss.map St.d) μ
theorem len_Kernel_statements {A : Cls} : ∀ ds μ q e, c_Kernel_statements A ds μ q e → ds.length = 1 := fun ds μ q e ⟨_, _, _, h, _⟩ => by rw [h]; rfl
theorem ok_Kernel_statements {A : Cls} : ∀ ds μ q e, c_Kernel_statements A ds μ q e → rd_Kernel_statements A e (endsD q) (startD 1 ds) μ := by
  rintro ds μ q e ⟨N, ss, bs, rfl, h⟩
  rcases h with h | h
  · exact .inl ⟨rfl, _, rfl, fin h rfl⟩
  · exact .inr ⟨rfl, _, rfl, fun p hp => fin (h p hp) rfl⟩
def c_Kernel___len__ (A : Cls) : DSp := fun ds μ q e => ∃ N ss bs, ds = [kD A N ss bs] ∧ q (.int (ss.length : Nat)) μ
theorem len_Kernel___len__ {A : Cls} : ∀ ds μ q e, c_Kernel___len__ A ds μ q e → ds.length = 1 := fun ds μ q e ⟨_, _, _, h, _⟩ => by rw [h]; rfl
theorem ok_Kernel___len__ {A : Cls} : ∀ ds μ q e, c_Kernel___len__ A ds μ q e → rd_Kernel___len__ A e (endsD q) (startD 1 ds) μ := by
  rintro ds μ q e ⟨N, ss, bs, rfl, h⟩
  exact ⟨rfl, _, rfl, fin h (congrArg (fun n : Nat => D.int n) (List.length_map ..))⟩
def c_Kernel_barriers (A : Cls) : DSp := fun ds μ q e => ∃ N ss bs, ds = [kD A N ss bs] ∧ Ei q (bs.map D.int) μ
theorem len_Kernel_barriers {A : Cls} : ∀ ds μ q e, c_Kernel_barriers A ds μ q e → ds.length = 1 := fun ds μ q e ⟨_, _, _, h, _⟩ => by rw [h]; rfl
theorem ok_Kernel_barriers {A : Cls} : ∀ ds μ q e, c_Kernel_barriers A ds μ q e → rd_Kernel_barriers A e (endsD q) (startD 1 ds) μ := by
  rintro ds μ q e ⟨N, ss, bs, rfl, h⟩
  rcases h with h | h
  · exact .inl ⟨rfl, _, rfl, fin h rfl⟩
  · exact .inr ⟨rfl, _, rfl, fun p hp => fin (h p hp) rfl⟩
def notK : D → Prop := fun y => ∃ T, tyD y = some T
def c_Kernel___eq__ (A : Cls) : DSp := fun ds μ q e => (∃ N ss bs N' ss' bs', ds = [kD A N ss bs, kD A N' ss' bs'] ∧ plainDs 63 (ss.map St.d) = true ∧ plainDs 63 (ss'.map St.d) = true ∧
  q (.bl (decide (N = N') && (eqD (.lst (ss.map St.d)) (.lst (ss'.map St.d)) && eqD (.lst (bs.map D.int)) (.lst (bs'.map D.int))))) μ) ∨ (∃ x y, ds = [x, y] ∧ notK y ∧ q (.bl false) μ)
theorem len_Kernel___eq__ {A : Cls} : ∀ ds μ q e, c_Kernel___eq__ A ds μ q e → ds.length = 2 := by
  rintro ds μ q e (⟨_, _, _, _, _, _, h, _⟩ | ⟨_, _, h, _⟩) <;> (rw [h]; rfl)
theorem ok_Kernel___eq__ {A : Cls} : ∀ ds μ q e, c_Kernel___eq__ A ds μ q e → rd_Kernel___eq__ A e (endsD q) (startD 2 ds) μ := by
  rintro ds μ q e (⟨N, ss, bs, N', ss', bs', rfl, h1, h2, h⟩ | ⟨x, y, rfl, ⟨T, hT⟩, h⟩)
  · refine ⟨rfl, .inl ⟨_, _, rfl, ?_⟩⟩
    refine ⟨rfl, _, rfl, ?_⟩
    refine ⟨rfl, _, rfl, ?_⟩
    have key : ∀ x : Bool, (decide (N = N') && (eqD (.lst (ss.map St.d)) (.lst (ss'.map St.d)) && eqD (.lst (bs.map D.int)) (.lst (bs'.map D.int)))) = x → ∃ μ2, Sub μ2 μ ∧ q (.bl x) μ2 := fun x e => fin (e ▸ h) rfl
    refine iteD (fun z1 => ?_) (fun z1 => ?_)
    · refine ⟨rfl, _, rfl, ?_⟩
      refine ⟨rfl, _, rfl, ?_⟩
      refine ⟨h1, h2, ?_⟩
      refine iteB (fun z2 => ?_) (fun z2 => ?_)
      · refine ⟨rfl, _, rfl, ?_⟩
        refine ⟨rfl, _, rfl, ?_⟩
        refine ⟨plain_ints 63 bs, plain_ints 63 bs', ?_⟩
        refine key _ ?_
        have z2 : eqD (.lst (ss.map St.d)) (.lst (ss'.map St.d)) = true := z2
        rw [decide_eq_true z1, z2]; rfl
      · refine key _ ?_
        have z2 : eqD (.lst (ss.map St.d)) (.lst (ss'.map St.d)) = false := z2
        rw [decide_eq_true z1, z2]; exact z2.symm
    · refine key _ ?_
      rw [decide_eq_false z1]; rfl
  · exact ⟨rfl, .inr ⟨T, hT, fin h rfl⟩⟩
/-- a kernel made; the statements may stand in a list that is written -/
theorem make_kM {A : Cls} {e : DX} {dds : List D} {t : DTA} {δ : DS} {μ : Mu} {q : DK} {N : Int} {x y : D} {ss : List St} {bs : List Int} (as : List D) (ht : ∀ q : List D → Mu → Prop, q as μ → t δ μ q) (ha : as ++ dds = [.int N, x, y])
    (hx : seqM μ x (ss.map St.d)) (hy : seqM μ y (bs.map D.int)) (hk : kOk N ss bs) (k : q (kD A N ss bs) μ) : dMakeZ A.Kernel (c_Kernel___init__ A) e dds t δ μ q := by
  refine ht _ fun p hp => ⟨p, N, x, y, ss, bs, by rw [ha], updM_same _ _ _, hx.new hp, hy.new hp, hk, rfl, kns, _, updM_same _ _ _, ?_⟩
  rw [updM_updM, delM_updM _ hp]
  exact k
theorem make_k {A : Cls} {e : DX} {dds : List D} {t : DTA} {δ : DS} {μ : Mu} {q : DK} {N : Int} {x y : D} {ss : List St} {bs : List Int} (as : List D) (ht : ∀ q : List D → Mu → Prop, q as μ → t δ μ q) (ha : as ++ dds = [.int N, x, y])
    (hx : seqD x (ss.map St.d)) (hy : seqD y (bs.map D.int)) (hk : kOk N ss bs) (k : q (kD A N ss bs) μ) : dMakeZ A.Kernel (c_Kernel___init__ A) e dds t δ μ q := make_kM as ht ha (.inl hx) (.inl hy) hk k
theorem mkZ {A : Cls} {e : DX} {μ : Mu} {Q : DK} {N : Int} {x y : D} {ss : List St} {bs : List Int} {as : List D} {p : Addr} (hp : μ p = none) (ha : as = [.int N, x, y]) (hx : seqM μ x (ss.map St.d)) (hy : seqM μ y (bs.map D.int)) (hk : kOk N ss bs)
    (k : Q .non (updM μ p (.obj A.Kernel kns [.int N, .lst (ss.map St.d), .lst (bs.map D.int), .non]))) : c_Kernel___init__ A (.adr p :: as) (updM μ p (.obj A.Kernel [] [])) Q e := by
  refine ⟨p, N, x, y, ss, bs, by rw [ha], updM_same _ _ _, hx.new hp, hy.new hp, hk, ?_⟩
  rw [updM_updM]
  exact k
theorem mL {μ : Mu} {l : List D} : seqM μ (.lst l) l := .inl (.inr rfl)
theorem mT {μ : Mu} {l : List D} : seqM μ (.tup l) l := .inl (.inl rfl)
theorem mA {μ : Mu} {r : Addr} {l : List D} (h : μ r = some (.lst l)) : seqM μ (.adr r) l := .inr ⟨r, rfl, h⟩
end Law

set_option linter.all false
set_option maxRecDepth 100000
set_option maxHeartbeats 1000000
/-! the source of draws that the laws of stage 1 have -/
namespace Law
open PySem L2 DL Ar
def c__law_draw (A : Cls) : DSp := fun ds μ q e => ∃ p m n, ds = [.adr p, .int m] ∧ Src p μ n ∧ n < 2 ^ 64 ∧ 0 < m ∧ m < 2 ^ 256 ∧ ∀ x μ', 0 ≤ x → x < m → Src p μ' (n + 1) → Ge p μ μ' → q (.int x) μ'
theorem len__law_draw {A : Cls} : ∀ ds μ q e, c__law_draw A ds μ q e → ds.length = 2 := fun ds μ q e ⟨_, _, _, h, _⟩ => by rw [h]; rfl
theorem ok__law_draw {A : Cls} : ∀ ds μ q e, c__law_draw A ds μ q e → rd__law_draw A e (endsD q) (startD 4 ds) μ := by
  rintro ds μ q e ⟨p, m, n, rfl, ⟨g, s, c, hm, g0, s0, s1, c0, c1⟩, hn, m0, m1, h⟩
  refine ⟨_, _, hm, rfl, ?_⟩
  refine iteD (fun z => ?_) (fun z => ?_)
  · refine ⟨_, _, hm, rfl, m0, ?_⟩
    refine ⟨_, _, hm, rfl, CDiv_of m0 m1, ?_⟩
    refine ⟨_, _, hm, rfl, ?_⟩
    have r := mod_ne (a := g) m0
    exact fin (h (g % m) _ r.1 r.2 ⟨g / m, s, c, updM_same _ _ _, Int.ediv_nonneg g0 (by omega), s0, s1, c0, by omega⟩ Ge.upd) rfl
  refine ⟨_, _, hm, rfl, ?_⟩
  refine ⟨_, _, hm, rfl, ?_⟩
  refine ⟨_, _, updM_same _ _ _, rfl, ?_⟩
  refine ⟨_, _, updM_same _ _ _, rfl, ?_⟩
  refine ⟨CMul_of (by omega) (by omega) (by omega) (by omega), ?_⟩
  refine ⟨CPow_big (j := 3) (by omega) (by omega) (by decide), (by decide : (0 : Int) < 162259276829213363391578010288127), ?_⟩
  have r1 := mod_ne (a := (s + 179424673 * (c + 1)) ^ 3) (b := 162259276829213363391578010288127) (by decide)
  refine ⟨_, _, updM_same _ _ _, rfl, ?_⟩
  refine ⟨CMul_of (by omega) (by omega) (by omega) (by omega), ?_⟩
  refine ⟨CPow_big (i := (s + 179424673 * (c + 1)) ^ 3 % 162259276829213363391578010288127 + 86028157 * (c + 1)) (j := 3) (by omega) (by omega) (by decide), (by decide : (0 : Int) < 170141183460469231731687303715884105727), ?_⟩
  refine ⟨CDiv_of (by decide) (by decide), m0, ?_⟩
  have r := mod_ne (a := ((s + 179424673 * (c + 1)) ^ 3 % 162259276829213363391578010288127 + 86028157 * (c + 1)) ^ 3 % 170141183460469231731687303715884105727 / 2097152) m0
  exact fin (h _ _ r.1 r.2 ⟨g, s, c + 1, updM_same _ _ _, g0, s0, s1, by omega, by omega⟩ Ge.upd) rfl
theorem dig_lt {g r : Int} {i : Nat} (h : g < 2 ^ (200 * i)) (h1 : r < 10 ^ 60) : g * 10 ^ 60 + r < 2 ^ (200 * (i + 1)) := by
  have e : (2 : Int) ^ (200 * (i + 1)) = 2 ^ (200 * i) * 2 ^ 200 := by rw [← Int.pow_add]; rfl
  rw [e]
  have h2 : (g + 1) * 10 ^ 60 ≤ 2 ^ (200 * i) * 10 ^ 60 := Int.mul_le_mul_of_nonneg_right (by omega) (by decide)
  have h3 : (2 : Int) ^ (200 * i) * 10 ^ 60 ≤ 2 ^ (200 * i) * 2 ^ 200 := Int.mul_le_mul_of_nonneg_left (by decide) (Int.pow_nonneg (by decide))
  omega
theorem dig_mono {g : Int} {i : Nat} (h : g < 2 ^ (200 * i)) : g < 2 ^ (200 * (i + 1)) := by
  have e : (2 : Int) ^ (200 * (i + 1)) = 2 ^ (200 * i) * 2 ^ 200 := by rw [← Int.pow_add]; rfl
  rw [e]
  have h3 : (2 : Int) ^ (200 * i) * 1 ≤ 2 ^ (200 * i) * 2 ^ 200 := Int.mul_le_mul_of_nonneg_left (by decide) (Int.pow_nonneg (by decide))
  omega
def c__law_source (A : Cls) : DSp := fun ds μ q e => ∃ ns : List Int, ds = [.rol (ns.map D.int)] ∧ ns.length ≤ 63 ∧ ∀ p μ', μ p = none → Src p μ' 0 → Ge p μ μ' → q (.adr p) μ'
theorem len__law_source {A : Cls} : ∀ ds μ q e, c__law_source A ds μ q e → ds.length = 1 := fun ds μ q e ⟨_, h, _⟩ => by rw [h]; rfl
theorem ok__law_source {A : Cls} : ∀ ds μ q e, c__law_source A ds μ q e → rd__law_source A e (endsD q) (startD 4 ds) μ := by
  rintro ds μ q e ⟨ns, rfl, hl, h⟩
  refine ⟨sz 2 rfl (by decide), rfl, ?_⟩
  refine ⟨fun i δ μ' => ∃ g s t, δ = [some (.rol (ns.map D.int)), some (.int g), some (.int s), t] ∧ μ' = μ ∧ 0 ≤ g ∧ g < 2 ^ (200 * i) ∧ 0 ≤ s ∧ s < 2 ^ 62, ⟨0, 7368787, none, rfl, rfl, by decide, by decide, by decide, by decide⟩, fun _ _ _ _ _ => trivial, ?_, ?_⟩
  · rintro i d δ μ' hi ⟨g, s, t, rfl, rfl, g0, g1, s0, s1⟩
    have hd := cut_mem hi
    obtain ⟨x, _, rfl⟩ := List.mem_map.mp hd
    have hi63 : i < 63 := by
      have := (List.getElem?_eq_some_iff.mp hi).1
      have := cut_len (l := ns.map D.int) (lo := none) (hi := some 63)
      simp only [List.length_map] at this
      omega
    have m1 := mod_ne (a := s * 6700417 + x % 2305843009213693921 + 13) (b := 2305843009213693951) (by decide)
    refine ⟨CPow_of (j := 18) (by decide) (by decide) (by decide), ?_⟩
    refine iteD (fun z => ?_) (fun z => ?_)
    · have r := mod_ne (a := if x < 0 then -x else x) (b := 10 ^ 60) (by decide)
      refine ⟨CPow_of (j := 60) (by decide) (by decide) (by decide), ?_⟩
      refine ⟨⟨200 * i, 256, by have : (g.natAbs : Int) = g := by omega
                                exact_mod_cast (this ▸ g1), by decide, by omega⟩, ?_⟩
      refine ⟨CPow_of (j := 60) (by decide) (by decide) (by decide), ?_⟩
      refine ⟨(by decide : (0 : Int) < 10 ^ 60), ?_⟩
      refine ⟨CMul_of (by omega) (by omega) (by omega) (by omega), ?_⟩
      refine ⟨(by decide : (0 : Int) < 2305843009213693921), (by decide : (0 : Int) < 2305843009213693951), ?_⟩
      refine ⟨_, _, _, rfl, rfl, ?_, ?_, m1.1, by omega⟩
      · exact Int.add_nonneg (Int.mul_nonneg g0 (by decide)) r.1
      · exact dig_lt g1 r.2
    · refine ⟨CMul_of (by omega) (by omega) (by omega) (by omega), ?_⟩
      refine ⟨(by decide : (0 : Int) < 2305843009213693921), (by decide : (0 : Int) < 2305843009213693951), ?_⟩
      refine ⟨_, _, _, rfl, rfl, g0, ?_, m1.1, by omega⟩
      exact dig_mono g1
  · rintro δ μ' ⟨g, s, t, rfl, rfl, g0, g1, s0, s1⟩
    refine ⟨sz 3 rfl (by decide), fun p hp => ?_⟩
    exact fin (h p _ hp ⟨g, s, 0, updM_same _ _ _, g0, s0, s1, by decide, by decide⟩ Ge.upd) rfl
end Law

set_option linter.all false
set_option maxRecDepth 100000
set_option maxHeartbeats 2000000
namespace Law
open PySem L2 DL Ar
theorem brOk_mono {m m' : Int} (h : m ≤ m') : ∀ {bs : List Int} {bf : Int}, brOk m bf bs → brOk m' bf bs
  | [], _, _ => trivial
  | b :: r, bf, ⟨h1, h2, h3⟩ => ⟨h1, by omega, brOk_mono h h3⟩
theorem brOk_bf {m : Int} {bf bf' : Int} (h : bf' ≤ bf) : ∀ {bs : List Int}, brOk m bf bs → brOk m bf' bs
  | [], _ => trivial
  | b :: r, ⟨h1, h2, h3⟩ => ⟨by omega, h2, h3⟩
theorem brOk_app {n M lo : Int} (hM : n ≤ M) (hlo : n ≤ lo + 1) : ∀ {xs ys : List Int} {bf : Int}, bf ≤ lo → brOk n bf xs → brOk M lo ys → brOk M bf (xs ++ ys)
  | [], ys, bf, h, _, hy => brOk_bf h hy
  | x :: xs, ys, bf, h, ⟨h1, h2, h3⟩, hy => ⟨h1, by omega, brOk_app hM hlo (by omega) h3 hy⟩
theorem brOk_shift {n m : Int} : ∀ {bs : List Int} {bf : Int}, brOk m bf bs → brOk (n + m) (n + bf) (bs.map (n + ·))
  | [], _, _ => trivial
  | b :: r, bf, ⟨h1, h2, h3⟩ => ⟨by show n + bf < n + b; omega, by show n + b < n + m; omega, brOk_shift h3⟩
theorem brOk_zero {bs : List Int} (h : brOk 0 0 bs) : bs = [] := by
  cases bs with
  | nil => rfl
  | cons b r => obtain ⟨h1, h2, _⟩ := h; omega
def PlA (p : Addr) (m n : Int) (μ : Mu) (K : List Int → Mu → Prop) : Prop := ∀ bs μ', brOk m 0 bs → bs.length ≤ 100 → Src p μ' (n + 100) → Ge p μ μ' → K bs μ'
def c__law_places (A : Cls) : DSp := fun ds μ q e => ∃ p m n, ds = [.adr p, .int m] ∧ Src p μ n ∧ n < 2 ^ 59 ∧ 0 ≤ m ∧ m ≤ 100 ∧ (PlA p m n μ (fun bs μ' => q (.lst (bs.map D.int)) μ') ∨ PlA p m n μ (fun bs μ' => ∀ r, μ' r = none → q (.adr r) (updM μ' r (.lst (bs.map D.int)))))
theorem len__law_places {A : Cls} : ∀ ds μ q e, c__law_places A ds μ q e → ds.length = 2 := fun ds μ q e ⟨_, _, _, h, _⟩ => by rw [h]; rfl
def plP (p : Addr) (n : Int) (μ : Mu) (i : Nat) (l : List D) (μ' : Mu) : Prop := ∃ bs : List Int, l = bs.map D.int ∧ bs.length ≤ i ∧ brOk (1 + (i : Nat)) 0 bs ∧ Src p μ' (n + i) ∧ Ge p μ μ'
theorem pl_step {A : Cls} {p : Addr} {m n : Int} {μ : Mu} (m1 : m ≤ 100) (hn : n < 2 ^ 59) : ∀ (i : Nat) (d : D) (l : List D) (μ' : Mu), (intsD 1 (m - 1).toNat)[i]? = some d → plP p n μ i l μ' → dgName 2 d (wipeD [some (.adr p), some (.int m), none] [2]) μ' fun δ2 μ2 => (dTest (dOp rEqG (dCall (c__law_draw A) eN [] (dCons (dVar 0) (dCons (dC (.int 4)) dNil))) (dC (.int 0)))) δ2 μ2 fun b μ3 => if b = true then dVar 2 δ2 μ3 fun y μ4 => plP p n μ (i + 1) (l ++ [y]) μ4 else plP p n μ (i + 1) l μ3 := by
  rintro i d l μ' hi ⟨bs, rfl, hb, hk, hs', k'⟩
  obtain ⟨hlt, rfl⟩ := ints_get hi
  refine ⟨p, 4, _, rfl, hs', by omega, by decide, by decide, fun v μ1 v0 v1 hs1 k1 => ?_⟩
  refine iteD (fun z => ?_) (fun z => ?_)
  · refine ⟨bs ++ [(1 : Int) + (i : Nat)], by rw [List.map_append]; rfl, by rw [List.length_append]; show bs.length + 1 ≤ _; omega, ?_, hs1.le (by omega), k'.trans k1⟩
    exact brOk_app (n := 1 + (i : Nat)) (M := 1 + ((i + 1 : Nat) : Int)) (lo := (i : Nat)) (by omega) (by omega) (by omega) hk ⟨by omega, by omega, trivial⟩
  · exact ⟨bs, rfl, by omega, brOk_mono (by omega) hk, hs1.le (by omega), k'.trans k1⟩
theorem pl_end {p : Addr} {m n : Int} {μ : Mu} {K : List Int → Mu → Prop} (m0 : 0 ≤ m) (m1 : m ≤ 100) (h : PlA p m n μ K) {l : List D} {μ' : Mu} (hP : plP p n μ (intsD 1 (m - 1).toNat).length l μ') : ∃ bs, l = bs.map D.int ∧ K bs μ' := by
  obtain ⟨bs, rfl, hb, hk, hs', k'⟩ := hP
  rw [ints_len] at hb hk hs'
  refine ⟨bs, rfl, h bs μ' ?_ (by omega) (hs'.le (by omega)) k'⟩
  by_cases z : 1 ≤ m
  · exact brOk_mono (by omega) hk
  · have : bs = [] := by
      cases bs with
      | nil => rfl
      | cons b r => simp only [List.length_cons] at hb; omega
    rw [this]; trivial
theorem ok__law_places {A : Cls} : ∀ ds μ q e, c__law_places A ds μ q e → rd__law_places A (c__law_draw A) e (endsD q) (startD 3 ds) μ := by
  rintro ds μ q e ⟨p, m, n, rfl, hs, hn, m0, m1, h⟩
  have p0 : plP p n μ 0 [] μ := ⟨[], rfl, Nat.le_refl _, trivial, hs.le (by omega), Ge.refl⟩
  have bd : ∀ (i : Nat) (l : List D) (μ' : Mu), i ≤ (intsD 1 (m - 1).toNat).length → plP p n μ i l μ' → True ∧ l.length < sizeLine := fun i l μ' hi ⟨bs, e, hb, _⟩ => by
    rw [ints_len] at hi
    exact ⟨trivial, by rw [e, List.length_map, sizeLine_eq]; omega⟩
  rcases h with h | h
  · refine .inl ⟨plP p n μ, p0, bd, pl_step m1 hn, fun l μ' hP => ?_⟩
    obtain ⟨bs, rfl, hk⟩ := pl_end m0 m1 h hP
    exact fin hk rfl
  · refine .inr ⟨plP p n μ, p0, bd, pl_step m1 hn, fun l μ' hP => ?_⟩
    obtain ⟨bs, rfl, hk⟩ := pl_end m0 m1 h hP
    exact fun r hr => fin (hk r hr) rfl
end Law

set_option linter.all false
set_option maxRecDepth 100000
set_option maxHeartbeats 2000000
/-! k08: sums of kernels, phases -/
namespace Law
open PySem L2 DL Ar
def btw (n m : Nat) : List Int := if 0 < n ∧ 0 < m then [(n : Int)] else []
def bj (n : Nat) (bs : List Int) (m : Nat) (cs : List Int) : List Int := bs ++ btw n m ++ cs.map ((n : Int) + ·)
theorem bj_ok {n m : Nat} {bs cs : List Int} (hb : brOk (n : Nat) 0 bs) (hc : brOk (m : Nat) 0 cs) : brOk ((n + m : Nat) : Int) 0 (bj n bs m cs) := by
  unfold bj btw
  have sh : brOk ((n : Int) + (m : Nat)) ((n : Int) + 0) (cs.map ((n : Int) + ·)) := brOk_shift hc
  rw [Int.add_zero] at sh
  by_cases z : 0 < n ∧ 0 < m
  · rw [if_pos z, List.append_assoc]
    exact brOk_app (n := (n : Nat)) (lo := (n : Int) - 1) (by omega) (by omega) (by omega) hb ⟨by omega, by omega, sh⟩
  · rw [if_neg z, List.append_nil]
    by_cases z1 : n = 0
    · subst z1
      rw [brOk_zero hb]
      exact sh
    · have z2 : m = 0 := by omega
      subst z2
      rw [brOk_zero hc]
      exact brOk_app (n := (n : Nat)) (lo := (n : Int)) (by omega) (by omega) (by omega) hb trivial
theorem bj_len {n m : Nat} {bs cs : List Int} : (bj n bs m cs).length ≤ bs.length + 1 + cs.length := by
  unfold bj btw
  rw [List.length_append, List.length_append, List.length_map]
  split <;> simp
theorem bj_assoc {n m k : Nat} {bs cs ds : List Int} (hb : brOk (n : Nat) 0 bs) (hc : brOk (m : Nat) 0 cs) (hd : brOk (k : Nat) 0 ds) : bj (n + m) (bj n bs m cs) k ds = bj n bs (m + k) (bj m cs k ds) := by
  have mm : ds.map (((n + m : Nat) : Int) + ·) = (ds.map ((m : Int) + ·)).map ((n : Int) + ·) := by
    rw [List.map_map]
    refine List.map_congr_left fun x _ => ?_
    show ((n + m : Nat) : Int) + x = (n : Int) + ((m : Int) + x)
    omega
  unfold bj btw
  rw [mm, List.map_append, List.map_append]
  by_cases zn : n = 0
  · subst zn
    rw [brOk_zero hb]
    by_cases zm : m = 0
    · subst zm
      rw [brOk_zero hc]
      simp
    · by_cases zk : k = 0
      · subst zk
        rw [brOk_zero hd]
        simp
      · rw [if_neg (by omega), if_pos (by omega), if_neg (by omega), if_pos (by omega)]
        simp
  · by_cases zm : m = 0
    · subst zm
      rw [brOk_zero hc]
      by_cases zk : k = 0
      · subst zk; simp
      · rw [if_neg (by omega), if_pos (by omega), if_pos (by omega), if_neg (by omega)]
        simp
    · by_cases zk : k = 0
      · subst zk
        rw [brOk_zero hd, if_pos (by omega), if_neg (by omega), if_pos (by omega), if_neg (by omega)]
        simp
      · rw [if_pos (by omega), if_pos (by omega), if_pos (by omega), if_pos (by omega)]
        simp
theorem kOk_add {N : Int} {ss ts : List St} {bs cs : List Int} (h : kOk N ss bs) (k : kOk N ts cs) (hl : ss.length + ts.length ≤ 1000) (hb : bs.length + cs.length < 1000) : kOk N (ss ++ ts) (bj ss.length bs ts.length cs) :=
  ⟨h.1, fun s hs => (List.mem_append.mp hs).elim (h.2.1 s) (k.2.1 s), by rw [List.length_append]; omega, by have := bj_len (n := ss.length) (bs := bs) (m := ts.length) (cs := cs); omega, by rw [List.length_append]; exact bj_ok h.2.2.2.2 k.2.2.2.2⟩
def c_Kernel___add__ (A : Cls) : DSp := fun ds μ q e => ∃ N ss ts bs cs, ds = [kD A N ss bs, kD A N ts cs] ∧ kOk N ss bs ∧ kOk N ts cs ∧ ss.length + ts.length ≤ 1000 ∧ bs.length + cs.length < 1000 ∧ q (kD A N (ss ++ ts) (bj ss.length bs ts.length cs)) μ
theorem len_Kernel___add__ {A : Cls} : ∀ ds μ q e, c_Kernel___add__ A ds μ q e → ds.length = 2 := fun ds μ q e ⟨_, _, _, _, _, h, _⟩ => by rw [h]; rfl
theorem add_end {A : Cls} {e : DX} {μ : Mu} {q : DK} {N : Int} {ss ts : List St} {bs cs n ms : List Int} {x2 x5 : Option D} (hn : n = btw ss.length ts.length) (hm : ms = cs.map ((ss.length : Int) + ·)) (h1 : kOk N ss bs) (h2 : kOk N ts cs) (hl : ss.length + ts.length ≤ 1000) (hb : bs.length + cs.length < 1000)
    (h : q (kD A N (ss ++ ts) (bj ss.length bs ts.length cs)) μ) :
    dRet (dMakeZ A.Kernel (c_Kernel___init__ A) e [] (dCons (dFld A.Kernel "_lanes" (dVar 0)) (dCons (dOp rAddD (dFld A.Kernel "_statements" (dVar 0)) (dFld A.Kernel "_statements" (dVar 1))) (dCons (dOp rAddD (dOp rAddD (dFld A.Kernel "_barriers" (dVar 0)) (dVar 3)) (dVar 4)) dNil)))) (endsD q) [some (kD A N ss bs), some (kD A N ts cs), x2, some (.lst (n.map D.int)), some (.lst (ms.map D.int)), x5] μ := by
  have nl : n.length ≤ 1 := by rw [hn]; unfold btw; split <;> simp
  have ml : ms.length = cs.length := by rw [hm, List.length_map]
  have e2 : bs ++ n ++ ms = bj ss.length bs ts.length cs := by rw [hn, hm]; rfl
  refine make_k (ss := ss ++ ts) (bs := bs ++ n ++ ms) [.int N, .lst ((ss ++ ts).map St.d), .lst ((bs ++ n ++ ms).map D.int)] (fun q k => ?_) rfl (.inr rfl) (.inr rfl) (by rw [e2]; exact kOk_add h1 h2 hl hb) (by rw [e2]; exact ⟨μ, Sub.refl μ, h⟩)
  refine ⟨rfl, _, rfl, rfl, _, rfl, rfl, _, rfl, ?_, ?_⟩
  · rw [List.length_map, List.length_map, sizeLine_eq]; omega
  refine ⟨rfl, _, rfl, ?_, ?_, ?_⟩
  · rw [sizeLine_eq]; simp only [List.length_map]; omega
  · rw [sizeLine_eq]; simp only [List.length_append, List.length_map]; omega
  · rw [List.map_append, List.map_append, List.map_append] at k
    exact k
theorem ok_Kernel___add__ {A : Cls} : ∀ ds μ q e, c_Kernel___add__ A ds μ q e → rd_Kernel___add__ A (c_Kernel___init__ A) e (endsD q) (startD 6 ds) μ := by
  rintro ds μ q e ⟨N, ss, ts, bs, cs, rfl, h1, h2, hl, hb, h⟩
  refine ⟨rfl, _, rfl, rfl, _, rfl, ?_⟩
  refine iteF (by show (!decide (N = N)) = false; rw [decide_eq_true rfl]; rfl) ?_
  refine ⟨rfl, _, rfl, ?_⟩
  have ej : ((ss.map St.d).length : Nat) = ss.length := List.length_map ..
  have ek : ((ts.map St.d).length : Nat) = ts.length := List.length_map ..
  have tail : ∀ n : List Int, n = btw ss.length ts.length → (dSeq (dAsg (dLc (diSq (dFld A.Kernel "_barriers" (dVar 1))) (dgName 5) dYes (dOp rAddD (dVar 2) (dVar 5)) [5]) (dgName 4))
      (dRet (dMakeZ A.Kernel (c_Kernel___init__ A) e [] (dCons (dFld A.Kernel "_lanes" (dVar 0)) (dCons (dOp rAddD (dFld A.Kernel "_statements" (dVar 0)) (dFld A.Kernel "_statements" (dVar 1))) (dCons (dOp rAddD (dOp rAddD (dFld A.Kernel "_barriers" (dVar 0)) (dVar 3)) (dVar 4)) dNil)))))) (endsD q)
      [some (kD A N ss bs), some (kD A N ts cs), some (.int ((ss.map St.d).length : Nat)), some (.lst (n.map D.int)), none, none] μ := fun n hn => by
    refine ⟨rfl, _, rfl, fun i l μ' => μ = μ' ∧ l = ((cs.take i).map ((ss.length : Int) + ·)).map D.int, ⟨rfl, rfl⟩, fun i l μ' hi hP => ⟨trivial, ?_⟩, ?_, ?_⟩
    · rw [hP.2, List.length_map, List.length_map, sizeLine_eq]
      have := List.length_take_le' i cs
      omega
    · rintro i d l μ' hi ⟨rfl, rfl⟩
      obtain ⟨c, hc, rfl⟩ := map_get hi
      refine ⟨rfl, ?_⟩
      rw [List.take_add_one, hc, List.map_append, List.map_append, ← ej]
      rfl
    · rintro l μ' ⟨rfl, rfl⟩
      rw [List.length_map, List.take_length]
      dsimp only [dgName]
      exact add_end hn rfl h1 h2 hl hb h
  refine iteD (fun z1 => ?_) (fun z1 => ?_)
  · refine ⟨rfl, _, rfl, ?_⟩
    have z1 : ((ss.map St.d).length : Int) > 0 := z1
    refine iteD (fun z2 => ?_) (fun z2 => ?_)
    · have z2 : ((ts.map St.d).length : Int) > 0 := z2
      refine ⟨sz 1 rfl (by decide), ?_⟩
      refine tail [((ss.map St.d).length : Int)] ?_
      unfold btw
      rw [if_pos (by omega), ej]
    · have z2 : ¬ ((ts.map St.d).length : Int) > 0 := z2
      refine ⟨sz 0 rfl (by decide), tail [] ?_⟩
      unfold btw
      rw [if_neg (by omega)]
  · have z1 : ¬ ((ss.map St.d).length : Int) > 0 := z1
    refine ⟨sz 0 rfl (by decide), tail [] ?_⟩
    unfold btw
    rw [if_neg (by omega)]
end Law

set_option linter.all false
set_option maxRecDepth 100000
set_option maxHeartbeats 2000000
namespace Law
open PySem L2 DL Ar
def c_Kernel_with_barriers (A : Cls) : DSp := fun ds μ q e => ∃ N ss y bs0 bs, ds = [kD A N ss bs0, y] ∧ seqM μ y (bs.map D.int) ∧ kOk N ss bs ∧ q (kD A N ss bs) μ
theorem len_Kernel_with_barriers {A : Cls} : ∀ ds μ q e, c_Kernel_with_barriers A ds μ q e → ds.length = 2 := fun ds μ q e ⟨_, _, _, _, _, h, _⟩ => by rw [h]; rfl
theorem ok_Kernel_with_barriers {A : Cls} : ∀ ds μ q e, c_Kernel_with_barriers A ds μ q e → rd_Kernel_with_barriers A (c_Kernel___init__ A) e (endsD q) (startD 2 ds) μ := by
  rintro ds μ q e ⟨N, ss, y, bs0, bs, rfl, hy, hk, h⟩
  exact make_kM [.int N, .lst (ss.map St.d), y] (fun q k => ⟨rfl, _, rfl, rfl, _, rfl, k⟩) rfl mL hy hk ⟨μ, Sub.refl μ, h⟩
def cu (bs : List Int) (i : Int) : Int := ((bs.filter fun b => decide (b ≤ i)).length : Nat)
def c_count_up_to (A : Cls) : DSp := fun ds μ q e => ∃ (bs : List Int) (i : Int), ds = [.lst (bs.map D.int), .int i] ∧ bs.length ≤ 1000 ∧ q (.int (cu bs i)) μ
theorem len_count_up_to {A : Cls} : ∀ ds μ q e, c_count_up_to A ds μ q e → ds.length = 2 := fun ds μ q e ⟨_, _, h, _⟩ => by rw [h]; rfl
theorem ok_count_up_to {A : Cls} : ∀ ds μ q e, c_count_up_to A ds μ q e → rd_count_up_to A e (endsD q) (startD 3 ds) μ := by
  rintro ds μ q e ⟨bs, i, rfl, hl, h⟩
  refine ⟨fun j l μ' => μ = μ' ∧ l = ((bs.take j).filter fun b => decide (b ≤ i)).map D.int, ⟨rfl, rfl⟩, fun j l μ' hj hP => ⟨trivial, ?_⟩, ?_, ?_⟩
  · have := List.length_filter_le (fun b : Int => decide (b ≤ i)) (bs.take j)
    have := List.length_take_le' j bs
    rw [hP.2, List.length_map, sizeLine_eq]; omega
  · rintro j d l μ' hj ⟨rfl, rfl⟩
    obtain ⟨b, hb, rfl⟩ := map_get hj
    have e1 : ((bs.take (j + 1)).filter fun b => decide (b ≤ i)) = ((bs.take j).filter fun b => decide (b ≤ i)) ++ if b ≤ i then [b] else [] := by
      rw [List.take_add_one, hb, Option.toList_some, List.filter_append]
      congr 1
      by_cases z : b ≤ i <;> simp [List.filter, z]
    refine iteD (fun z => ?_) (fun z => ?_)
    · have z : b ≤ i := z
      refine ⟨rfl, ?_⟩
      rw [e1, if_pos z, List.map_append]; rfl
    · have z : ¬ b ≤ i := z
      refine ⟨rfl, ?_⟩
      rw [e1, if_neg z, List.append_nil]
  · rintro l μ' ⟨rfl, rfl⟩
    rw [List.length_map, List.take_length]
    refine fin h (congrArg D.int ?_)
    rw [List.length_map]; rfl
def c_phase_of (A : Cls) : DSp := fun ds μ q e => ∃ N ss bs i, ds = [kD A N ss bs, .int i] ∧ ss.length ≤ 1000 ∧ bs.length ≤ 1000 ∧ 0 ≤ i ∧ i < (ss.length : Nat) ∧ q (.int (cu bs i)) μ
theorem len_phase_of {A : Cls} : ∀ ds μ q e, c_phase_of A ds μ q e → ds.length = 2 := fun ds μ q e ⟨_, _, _, _, h, _⟩ => by rw [h]; rfl
theorem ok_phase_of {A : Cls} : ∀ ds μ q e, c_phase_of A ds μ q e → rd_phase_of A (c_Kernel___len__ A) (c_Kernel_barriers A) (c_count_up_to A) e (endsD q) (startD 2 ds) μ := by
  rintro ds μ q e ⟨N, ss, bs, i, rfl, hl, hb, i0, i1, h⟩
  refine iteDF (by omega) ?_
  refine ⟨rfl, N, ss, bs, rfl, _, rfl, by rw [sizeLine_eq]; omega, ?_⟩
  refine iteDF (by omega) ?_
  exact ⟨rfl, N, ss, bs, rfl, .inl ⟨bs, i, rfl, hb, fin h rfl⟩⟩
/-! accesses -/
def ac (k : Nat) (w : Str) (z : Str) (a b : Int) : D := .tup [.int k, .str w, .str z, .int a, .int b]
def sacs (k : Nat) : St → List D
  | .put _ nm a b _ _ => [ac k "write" nm a b]
  | .move _ nm a b src a2 b2 _ => [ac k "read" src a2 b2, ac k "write" nm a b]
  | .sum _ nm a b src a2 b2 oth a3 b3 => [ac k "read" src a2 b2, ac k "read" oth a3 b3, ac k "write" nm a b]
def acs : Nat → List St → List D
  | _, [] => []
  | k, s :: r => sacs k s ++ acs (k + 1) r
theorem acs_snoc {s : St} : ∀ {ss : List St} {k : Nat}, acs k (ss ++ [s]) = acs k ss ++ sacs (k + ss.length) s
  | [], k => by simp [acs]
  | t :: r, k => by
    rw [List.cons_append, acs, acs, acs_snoc, List.append_assoc, List.length_cons, Nat.add_right_comm, Nat.add_assoc]
theorem acs_app : ∀ {ss ts : List St} {k : Nat}, acs k (ss ++ ts) = acs k ss ++ acs (k + ss.length) ts
  | [], ts, k => by simp [acs]
  | t :: r, ts, k => by
    rw [List.cons_append, acs, acs, acs_app, List.append_assoc, List.length_cons, Nat.add_right_comm, Nat.add_assoc]
theorem sacs_len (k : Nat) (s : St) : (sacs k s).length ≤ 3 := by cases s <;> simp [sacs]
theorem acs_len : ∀ {ss : List St} {k : Nat}, (acs k ss).length ≤ 3 * ss.length
  | [], _ => Nat.le_refl _
  | s :: r, k => by
    rw [acs, List.length_append, List.length_cons]
    have := sacs_len k s
    have := acs_len (ss := r) (k := k + 1)
    omega
def c_access_at (A : Cls) : DSp := fun ds μ q e => ∃ (l : List D) (k pl : Int) (x y z : D), ds = [.tup l, .int k, .int pl] ∧ atI l pl = some x ∧ atI l (pl + 1) = some y ∧ atI l (pl + 2) = some z ∧ q (.tup [.int k, .str (if pl = 2 then "write" else "read"), x, y, z]) μ
theorem len_access_at {A : Cls} : ∀ ds μ q e, c_access_at A ds μ q e → ds.length = 3 := fun ds μ q e ⟨_, _, _, _, _, _, h, _⟩ => by rw [h]; rfl
theorem ok_access_at {A : Cls} : ∀ ds μ q e, c_access_at A ds μ q e → rd_access_at A e (endsD q) (startD 4 ds) μ := by
  rintro ds μ q e ⟨l, k, pl, x, y, z, rfl, h1, h2, h3, h⟩
  refine iteD (fun w => ?_) (fun w => ?_)
  · have w : pl = 2 := w
    rw [if_pos w] at h
    conv => whnf
    rw [h1]
    conv => whnf
    rw [h2]
    conv => whnf
    rw [h3]
    exact ⟨sz 5 rfl (by decide), fin h rfl⟩
  · have w : ¬ pl = 2 := w
    rw [if_neg w] at h
    conv => whnf
    rw [h1]
    conv => whnf
    rw [h2]
    conv => whnf
    rw [h3]
    exact ⟨sz 5 rfl (by decide), fin h rfl⟩
end Law

set_option linter.all false
set_option maxRecDepth 100000
namespace DL
open PySem L2
/-! texts that fit -/
def okD (w : Nat) (d : D) : Prop := (pyD d).leavesShort 13 = true ∧ (pyD d).weight ≤ w ∧ (pyD d).showable = true
def okDs (w : Nat) (l : List D) : Prop := PyData.leavesShortAll 13 (pyDs l) = true ∧ PyData.weightAll (pyDs l) ≤ w ∧ PyData.showableAll (pyDs l) = true
theorem okD_non : okD 0 .non := ⟨rfl, Nat.le_refl _, rfl⟩
theorem okD_bl (b : Bool) : okD 0 (.bl b) := ⟨rfl, Nat.le_refl _, rfl⟩
theorem log2_small {i : Int} (h : i.natAbs < 10 ^ 12) : i.natAbs.log2 < 40 := by
  by_cases z : i.natAbs = 0
  · rw [z]; decide
  · exact (Nat.log2_lt z).mpr (by omega)
theorem okD_int {i : Int} (h : i.natAbs < 10 ^ 12) : okD 40 (.int i) := by
  have h1 := log2_small h
  refine ⟨decide_eq_true (PyData.shown_int_le h), ?_, decide_eq_true (by omega)⟩
  show (if i == 0 then 0 else i.natAbs.log2 + 1) ≤ 40
  split <;> omega
theorem okDs_nil : okDs 0 [] := ⟨rfl, Nat.le_refl _, rfl⟩
theorem okDs_cons {w w' : Nat} {d : D} {l : List D} (h : okD w d) (k : okDs w' l) : okDs (w + 1 + w') (d :: l) := by
  refine ⟨?_, ?_, ?_⟩
  · show ((pyD d).leavesShort 13 && PyData.leavesShortAll 13 (pyDs l)) = true
    rw [h.1, k.1]; rfl
  · show (pyD d).weight + 1 + PyData.weightAll (pyDs l) ≤ _
    have := h.2.1; have := k.2.1; omega
  · show ((pyD d).showable && PyData.showableAll (pyDs l)) = true
    rw [h.2.2, k.2.2]; rfl
theorem okDs_all {w : Nat} : ∀ {l : List D}, (∀ d ∈ l, okD w d) → okDs ((w + 1) * l.length) l
  | [], _ => okDs_nil
  | d :: l, h => by
    have := okDs_cons (h d List.mem_cons_self) (okDs_all fun x hx => h x (List.mem_cons_of_mem _ hx))
    rwa [show (w + 1) * (d :: l).length = w + 1 + (w + 1) * l.length by rw [List.length_cons, Nat.mul_add, Nat.mul_one, Nat.add_comm]]
theorem okD_tup {w : Nat} {l : List D} (h : okDs w l) : okD w (.tup l) := h
theorem okD_lst {w : Nat} {l : List D} (h : okDs w l) : okD w (.lst l) := h
theorem okD.le {w w' : Nat} {d : D} (h : okD w d) (k : w ≤ w') : okD w' d := ⟨h.1, Nat.le_trans h.2.1 k, h.2.2⟩
theorem shownOk_of {w : Nat} {d : D} (h : okD w d) (hw : w ≤ 1000000) : shownOk d := by
  refine ⟨h.2.2, ?_⟩
  have := PyData.shown_le 13 (by decide) (pyD d) h.1
  have := h.2.1
  rw [sizeLine_eq]; omega
theorem atI_end {α : Type} {l : List α} {x : α} (h : l.getLast? = some x) : atI l (-1) = some x := by
  have hl : l ≠ [] := fun z => by rw [z] at h; cases h
  have h0 : 0 < l.length := List.length_pos_iff.mpr hl
  rw [List.getLast?_eq_getElem?] at h
  unfold atI
  have e : ixN l.length (-1) = some (l.length - 1) := by
    unfold ixN
    simp
    omega
  rw [e]; exact h
end DL

set_option linter.all false
set_option maxRecDepth 100000
set_option maxHeartbeats 2000000
/-! texts of greater numbers that fit -/
namespace Law
open PySem L2 DL Ar
def okB (w : Nat) (d : D) : Prop := (pyD d).leavesShort 60 = true ∧ (pyD d).weight ≤ w ∧ (pyD d).showable = true
def okBs (w : Nat) (l : List D) : Prop := PyData.leavesShortAll 60 (pyDs l) = true ∧ PyData.weightAll (pyDs l) ≤ w ∧ PyData.showableAll (pyDs l) = true
theorem okB_non : okB 0 .non := ⟨rfl, Nat.le_refl _, rfl⟩
theorem okB_bl (b : Bool) : okB 0 (.bl b) := ⟨rfl, Nat.le_refl _, rfl⟩
theorem log2_big {i : Int} (h : i.natAbs < 10 ^ 40) : i.natAbs.log2 < 140 := by
  by_cases z : i.natAbs = 0
  · rw [z]; decide
  · exact (Nat.log2_lt z).mpr (Nat.lt_trans h (by decide))
theorem okB_int {i : Int} (h : i.natAbs < 10 ^ 40) : okB 140 (.int i) := by
  have h1 := log2_big h
  refine ⟨decide_eq_true ?_, ?_, decide_eq_true (by omega)⟩
  · have e := int_text_length_le10 (k := 40) (by decide) h
    show (Str.ofString (toString i)).length ≤ 60
    rw [ofString_length]
    omega
  · show (if i == 0 then 0 else i.natAbs.log2 + 1) ≤ 140
    split <;> omega
theorem nm_cps {z : Str} (h : nmOk z = true) : ∀ c ∈ z.cps.toList, c < 1000 := by
  intro c hc
  unfold nmOk at h
  rw [Bool.and_eq_true, List.all_eq_true] at h
  have := h.2 c hc
  unfold sgOk at this
  rw [show ("z" : Str).cps.toList = [122] from by decide +kernel, show ("a" : Str).cps.toList = [97] from by decide +kernel, show (⟨#[c]⟩ : Str).cps.toList = [c] from rfl, Bool.and_eq_true, Bool.not_eq_true', Bool.not_eq_true', decide_eq_false_iff_not, decide_eq_false_iff_not] at this
  simp only [List.cons_lt_cons_iff, List.not_lt_nil, and_false, or_false] at this
  omega
theorem nm_len {z : Str} (h : nmOk z = true) : z.length ≤ 8 := by
  unfold nmOk at h
  rw [Bool.and_eq_true, Bool.and_eq_true, decide_eq_true_eq, decide_eq_true_eq] at h
  omega
theorem nm_str {z : Str} (h : nmOk z = true) : PyData.strOk z = true := by
  unfold PyData.strOk
  rw [← Array.all_toList, List.all_eq_true]
  intro c hc
  have := nm_cps h c hc
  exact decide_eq_true (by omega)
theorem okB_str {z : Str} (hc : ∀ c ∈ z.cps.toList, c < 1000) (hl : z.length ≤ 140) : okB 140 (.str z) := by
  refine ⟨?_, hl, rfl⟩
  show (z.cps.toList.all fun c => decide (c < 16 ^ 8)) = true
  rw [List.all_eq_true]
  intro c h
  have := hc c h
  exact decide_eq_true (by omega)
theorem okBs_nil : okBs 0 [] := ⟨rfl, Nat.le_refl _, rfl⟩
theorem okBs_cons {w w' : Nat} {d : D} {l : List D} (h : okB w d) (k : okBs w' l) : okBs (w + 1 + w') (d :: l) := by
  refine ⟨?_, ?_, ?_⟩
  · show ((pyD d).leavesShort 60 && PyData.leavesShortAll 60 (pyDs l)) = true
    rw [h.1, k.1]; rfl
  · show (pyD d).weight + 1 + PyData.weightAll (pyDs l) ≤ _
    have := h.2.1; have := k.2.1; omega
  · show ((pyD d).showable && PyData.showableAll (pyDs l)) = true
    rw [h.2.2, k.2.2]; rfl
theorem okBs_all {w : Nat} : ∀ {l : List D}, (∀ d ∈ l, okB w d) → okBs ((w + 1) * l.length) l
  | [], _ => okBs_nil
  | d :: l, h => by
    have := okBs_cons (h d List.mem_cons_self) (okBs_all fun x hx => h x (List.mem_cons_of_mem _ hx))
    rwa [show (w + 1) * (d :: l).length = w + 1 + (w + 1) * l.length by rw [List.length_cons, Nat.mul_add, Nat.mul_one, Nat.add_comm]]
theorem okB_tup {w : Nat} {l : List D} (h : okBs w l) : okB w (.tup l) := h
theorem okB_lst {w : Nat} {l : List D} (h : okBs w l) : okB w (.lst l) := h
theorem okB.le {w w' : Nat} {d : D} (h : okB w d) (k : w ≤ w') : okB w' d := ⟨h.1, Nat.le_trans h.2.1 k, h.2.2⟩
theorem okBs.le {w w' : Nat} {d : List D} (h : okBs w d) (k : w ≤ w') : okBs w' d := ⟨h.1, Nat.le_trans h.2.1 k, h.2.2⟩
theorem shownOk_B {w : Nat} {d : D} (h : okB w d) (hw : w ≤ 200000) : shownOk d := by
  refine ⟨h.2.2, ?_⟩
  have := PyData.shown_le 60 (by decide) (pyD d) h.1
  have := h.2.1
  rw [sizeLine_eq]; omega
/-! == is symmetric -/
theorem eqD_comm (x y : D) : eqD x y = eqD y x := PySem.W.eqv_comm _ _
/-! statements -/
def St.nl : St → List Int
  | .put _ _ a b c d => [a, b, c, d]
  | .move _ _ a b _ a2 b2 d => [a, b, a2, b2, d]
  | .sum _ _ a b _ a2 b2 _ a3 b3 => [a, b, a2, b2, a3, b3]
def St.il (s : St) : List Int := [s.g.a, s.g.b, s.g.c, s.g.d] ++ s.nl
structure SW (m : Int) (s : St) : Prop where
  nm : ∀ z ∈ s.nms, nmOk z = true
  ok : s.g.ok = true
  le : s.g.b ≤ m
structure SG (m : Int) (s : St) : Prop extends SW m s where
  sl : ∀ x ∈ s.il, x.natAbs < 10 ^ 40
theorem SW.isOk {m : Int} {s : St} (h : SW m s) : s.ok m = true := by
  unfold St.ok
  rw [Bool.and_eq_true, Bool.and_eq_true, decide_eq_true_eq, List.all_eq_true]
  exact ⟨h.nm, h.ok, h.le⟩
theorem SW.short {m : Int} {s : St} (h : SW m s) : s.short := fun z hz => by have := nm_len (h.nm z hz); omega
theorem SW.plain {m : Int} {s : St} (h : SW m s) : plainD 60 s.d = true := by
  cases s with
  | put g nm a b c d =>
    have h1 := nm_str (h.nm nm (by simp [St.nms]))
    simp [St.d, plainD, plainDs, h1, G4.D]
    decide +kernel
  | move g nm a b src a2 b2 d =>
    have h1 := nm_str (h.nm nm (by simp [St.nms])); have h2 := nm_str (h.nm src (by simp [St.nms]))
    simp [St.d, plainD, plainDs, h1, h2, G4.D]
    decide +kernel
  | sum g nm a b src a2 b2 oth a3 b3 =>
    have h1 := nm_str (h.nm nm (by simp [St.nms])); have h2 := nm_str (h.nm src (by simp [St.nms])); have h3 := nm_str (h.nm oth (by simp [St.nms]))
    simp [St.d, plainD, plainDs, h1, h2, h3, G4.D]
    decide +kernel
theorem okB_nm {z : Str} (h : nmOk z = true) : okB 140 (.str z) := okB_str (nm_cps h) (by have := nm_len h; omega)
theorem okB_word {z : Str} (h : (z.cps.toList.all fun c => decide (c < 1000)) = true) (hl : z.length ≤ 140) : okB 140 (.str z) := okB_str (fun c hc => of_decide_eq_true (List.all_eq_true.mp h c hc)) hl
theorem SG.ints {m : Int} {s : St} (h : SG m s) : ∀ x ∈ s.il, okB 140 (.int x) := fun x hx => okB_int (h.sl x hx)
theorem okB_g {g : G4} (h : ∀ x ∈ [g.a, g.b, g.c, g.d], okB 140 (.int x)) : okB 564 g.D :=
  okB_tup (okBs_cons (h g.a (by simp)) (okBs_cons (h g.b (by simp)) (okBs_cons (h g.c (by simp)) (okBs_cons (h g.d (by simp)) okBs_nil))))
theorem SG.txt {m : Int} {s : St} (h : SG m s) : okB 2500 s.d := by
  have hi := h.ints
  cases s with
  | put g nm a b c d =>
    have h1 := okB_nm (h.nm nm (by simp [St.nms]))
    exact (okB_tup (okBs_cons (okB_word (by decide +kernel) (by decide +kernel)) (okBs_cons (okB_g fun x hx => hi x (List.mem_append_left _ hx)) (okBs_cons h1 (okBs_cons (hi a (by simp [St.il, St.nl])) (okBs_cons (hi b (by simp [St.il, St.nl])) (okBs_cons (hi c (by simp [St.il, St.nl])) (okBs_cons (hi d (by simp [St.il, St.nl])) okBs_nil)))))))).le (by decide)
  | move g nm a b src a2 b2 d =>
    have h1 := okB_nm (h.nm nm (by simp [St.nms])); have h2 := okB_nm (h.nm src (by simp [St.nms]))
    exact (okB_tup (okBs_cons (okB_word (by decide +kernel) (by decide +kernel)) (okBs_cons (okB_g fun x hx => hi x (List.mem_append_left _ hx)) (okBs_cons h1 (okBs_cons (hi a (by simp [St.il, St.nl])) (okBs_cons (hi b (by simp [St.il, St.nl])) (okBs_cons h2 (okBs_cons (hi a2 (by simp [St.il, St.nl])) (okBs_cons (hi b2 (by simp [St.il, St.nl])) (okBs_cons (hi d (by simp [St.il, St.nl])) okBs_nil)))))))))).le (by decide)
  | sum g nm a b src a2 b2 oth a3 b3 =>
    have h1 := okB_nm (h.nm nm (by simp [St.nms])); have h2 := okB_nm (h.nm src (by simp [St.nms])); have h3 := okB_nm (h.nm oth (by simp [St.nms]))
    exact (okB_tup (okBs_cons (okB_word (by decide +kernel) (by decide +kernel)) (okBs_cons (okB_g fun x hx => hi x (List.mem_append_left _ hx)) (okBs_cons h1 (okBs_cons (hi a (by simp [St.il, St.nl])) (okBs_cons (hi b (by simp [St.il, St.nl])) (okBs_cons h2 (okBs_cons (hi a2 (by simp [St.il, St.nl])) (okBs_cons (hi b2 (by simp [St.il, St.nl])) (okBs_cons h3 (okBs_cons (hi a3 (by simp [St.il, St.nl])) (okBs_cons (hi b3 (by simp [St.il, St.nl])) okBs_nil)))))))))))).le (by decide)
theorem SG.acs {m : Int} {s : St} (h : SG m s) {k : Nat} (hk : k < 1000) : ∀ d ∈ sacs k s, okB 800 d := by
  have hi := h.ints
  have ik : okB 140 (.int (k : Nat)) := okB_int (by omega)
  have wr : okB 140 (.str "write") := okB_word (by decide +kernel) (by decide +kernel)
  have re : okB 140 (.str "read") := okB_word (by decide +kernel) (by decide +kernel)
  have mk : ∀ (w z : Str) (a b : Int), okB 140 (.str w) → nmOk z = true → okB 140 (.int a) → okB 140 (.int b) → okB 800 (ac k w z a b) := fun w z a b h1 h2 h3 h4 =>
    (okB_tup (okBs_cons ik (okBs_cons h1 (okBs_cons (okB_nm h2) (okBs_cons h3 (okBs_cons h4 okBs_nil)))))).le (by decide)
  intro d hd
  cases s with
  | put g nm a b c d' =>
    simp only [sacs, List.mem_cons, List.not_mem_nil, or_false] at hd
    subst hd
    exact mk _ _ _ _ wr (h.nm _ (by simp [St.nms])) (hi _ (by simp [St.il, St.nl])) (hi _ (by simp [St.il, St.nl]))
  | move g nm a b src a2 b2 d' =>
    simp only [sacs, List.mem_cons, List.not_mem_nil, or_false] at hd
    rcases hd with rfl | rfl
    · exact mk _ _ _ _ re (h.nm _ (by simp [St.nms])) (hi _ (by simp [St.il, St.nl])) (hi _ (by simp [St.il, St.nl]))
    · exact mk _ _ _ _ wr (h.nm _ (by simp [St.nms])) (hi _ (by simp [St.il, St.nl])) (hi _ (by simp [St.il, St.nl]))
  | sum g nm a b src a2 b2 oth a3 b3 =>
    simp only [sacs, List.mem_cons, List.not_mem_nil, or_false] at hd
    rcases hd with rfl | rfl | rfl
    · exact mk _ _ _ _ re (h.nm _ (by simp [St.nms])) (hi _ (by simp [St.il, St.nl])) (hi _ (by simp [St.il, St.nl]))
    · exact mk _ _ _ _ re (h.nm _ (by simp [St.nms])) (hi _ (by simp [St.il, St.nl])) (hi _ (by simp [St.il, St.nl]))
    · exact mk _ _ _ _ wr (h.nm _ (by simp [St.nms])) (hi _ (by simp [St.il, St.nl])) (hi _ (by simp [St.il, St.nl]))
theorem acs_txt {m : Int} : ∀ {ss : List St} {k : Nat}, (∀ s ∈ ss, SG m s) → k + ss.length ≤ 1000 → ∀ d ∈ acs k ss, okB 800 d
  | [], _, _, _, _, h => nomatch h
  | s :: r, k, h, hl, d, hd => by
    simp only [List.length_cons] at hl
    rcases List.mem_append.mp hd with z | z
    · exact (h s List.mem_cons_self).acs (by omega) d z
    · exact acs_txt (fun x hx => h x (List.mem_cons_of_mem _ hx)) (by omega) d z
theorem acs_plain {m : Int} : ∀ {ss : List St} {k : Nat}, (∀ s ∈ ss, SG m s) → plainDs 61 (acs k ss) = true := by
  intro ss
  induction ss with
  | nil => intros; rfl
  | cons s r ih =>
    intro k h
    refine plainDs_iff.mpr fun d hd => ?_
    rcases List.mem_append.mp hd with z | z
    · have hh := h s List.mem_cons_self
      have wr : PyData.strOk "write" = true := by decide +kernel
      have re : PyData.strOk "read" = true := by decide +kernel
      have mk : ∀ (w z : Str) (a b : Int), PyData.strOk w = true → nmOk z = true → plainD 61 (ac k w z a b) = true := fun w z a b h1 h2 => by simp [ac, plainD, plainDs, h1, nm_str h2]
      cases s with
      | put g nm a b c d' =>
        simp only [sacs, List.mem_cons, List.not_mem_nil, or_false] at z
        subst z
        exact mk _ _ _ _ wr (hh.nm _ (by simp [St.nms]))
      | move g nm a b src a2 b2 d' =>
        simp only [sacs, List.mem_cons, List.not_mem_nil, or_false] at z
        rcases z with rfl | rfl
        · exact mk _ _ _ _ re (hh.nm _ (by simp [St.nms]))
        · exact mk _ _ _ _ wr (hh.nm _ (by simp [St.nms]))
      | sum g nm a b src a2 b2 oth a3 b3 =>
        simp only [sacs, List.mem_cons, List.not_mem_nil, or_false] at z
        rcases z with rfl | rfl | rfl
        · exact mk _ _ _ _ re (hh.nm _ (by simp [St.nms]))
        · exact mk _ _ _ _ re (hh.nm _ (by simp [St.nms]))
        · exact mk _ _ _ _ wr (hh.nm _ (by simp [St.nms]))
    · exact plainDs_iff.mp (ih fun x hx => h x (List.mem_cons_of_mem _ hx)) d z
end Law

set_option linter.all false
set_option maxRecDepth 100000
set_option maxHeartbeats 2000000
namespace Law
open PySem L2 DL Ar
def c_accesses_of (A : Cls) : DSp := fun ds μ q e => ∃ ss : List St, ds = [.lst (ss.map St.d)] ∧ ss.length ≤ 1000 ∧ Ei q (acs 0 ss) μ
theorem len_accesses_of {A : Cls} : ∀ ds μ q e, c_accesses_of A ds μ q e → ds.length = 1 := fun ds μ q e ⟨_, h, _⟩ => by rw [h]; rfl
theorem ok_accesses_of {A : Cls} : ∀ ds μ q e, c_accesses_of A ds μ q e → rd_accesses_of A (c_access_at A) e (endsD q) (startD 4 ds) μ := by
  rintro ds μ q e ⟨ss, rfl, hl, h⟩
  intro R hR
  refine ⟨fun i μ' => μ' = updM μ R (.lst (acs 0 (ss.take i))), rfl, fun _ _ _ _ => trivial, ?_, ?_⟩
  · rintro i d μ' hi rfl
    obtain ⟨x, hx, rfl⟩ := enum_get hi
    obtain ⟨s, hs, rfl⟩ := map_get hx
    have il : i < ss.length := (List.getElem?_eq_some_iff.mp hs).1
    have e1 : acs 0 (ss.take (i + 1)) = acs 0 (ss.take i) ++ sacs i s := by
      rw [List.take_add_one, hs, Option.toList_some, acs_snoc, List.length_take, Nat.zero_add, Nat.min_eq_left (by omega)]
    have l1 : (acs 0 (ss.take i)).length ≤ 3000 := by
      have := acs_len (ss := ss.take i) (k := 0)
      have := List.length_take_le' i ss
      omega
    have app : ∀ (l : List D) (y : D) (l' : List D), l.length ≤ 3010 → l' = l ++ [y] → ∃ l0, updM μ R (.lst l) R = some (.lst l0) ∧ l0.length < sizeLine ∧ updM (updM μ R (.lst l)) R (.lst (l0 ++ [y])) = updM μ R (.lst l') := fun l y l' hl e => by
      refine ⟨l, updM_same _ _ _, by rw [sizeLine_eq]; omega, ?_⟩
      rw [updM_updM, e]
    have bas : ∀ m : List D, m.length ≤ 4 → (acs 0 (ss.take i) ++ m).length ≤ 3010 := fun m hm => by rw [List.length_append]; omega
    cases s with
    | put g nm a b c d =>
      refine ⟨rfl, rfl, _, rfl, fun j μ' => μ' = updM μ R (.lst (acs 0 (ss.take i) ++ (sacs i (.put g nm a b c d)).take j)), by show updM μ R (.lst (acs 0 (ss.take i))) = updM μ R (.lst (acs 0 (ss.take i) ++ [])); rw [List.append_nil], fun _ _ _ _ => trivial, ?_, ?_⟩
      · rintro j d μ' hj rfl
        match j, hj with
        | 0, hj =>
          obtain rfl : D.int 2 = d := Option.some.inj hj
          exact ⟨[.str "put", g.D, .str nm, .int a, .int b, .int c, .int d], (i : Nat), 2, _, _, _, rfl, ix2 _ _ _ _, ix3 _ _ _ _ _, ix4 _ _ _ _ _ _, app _ _ _ (bas _ (by simp [sacs])) (by simp [sacs, ac])⟩
        | j + 1, hj => exact nomatch hj
      · rintro μ' rfl
        show _ = updM μ R (.lst (acs 0 (ss.take (i + 1))))
        rw [e1]
        rfl
    | move g nm a b src a2 b2 d =>
      refine ⟨rfl, rfl, _, rfl, fun j μ' => μ' = updM μ R (.lst (acs 0 (ss.take i) ++ (sacs i (.move g nm a b src a2 b2 d)).take j)), by show updM μ R (.lst (acs 0 (ss.take i))) = updM μ R (.lst (acs 0 (ss.take i) ++ [])); rw [List.append_nil], fun _ _ _ _ => trivial, ?_, ?_⟩
      · rintro j d μ' hj rfl
        match j, hj with
        | 0, hj =>
          obtain rfl : D.int 5 = d := Option.some.inj hj
          exact ⟨[.str "move", g.D, .str nm, .int a, .int b, .str src, .int a2, .int b2, .int d], (i : Nat), 5, _, _, _, rfl, ix5 _ _ _ _ _ _ _, ix6 _ _ _ _ _ _ _ _, ix7 _ _ _ _ _ _ _ _ _, app _ _ _ (bas _ (by simp [sacs])) (by simp [sacs, ac])⟩
        | 1, hj =>
          obtain rfl : D.int 2 = d := Option.some.inj hj
          exact ⟨[.str "move", g.D, .str nm, .int a, .int b, .str src, .int a2, .int b2, .int d], (i : Nat), 2, _, _, _, rfl, ix2 _ _ _ _, ix3 _ _ _ _ _, ix4 _ _ _ _ _ _, app _ _ _ (bas _ (by simp [sacs])) (by simp [sacs, ac])⟩
        | j + 2, hj => exact nomatch hj
      · rintro μ' rfl
        show _ = updM μ R (.lst (acs 0 (ss.take (i + 1))))
        rw [e1]
        rfl
    | sum g nm a b src a2 b2 oth a3 b3 =>
      refine ⟨rfl, rfl, _, rfl, fun j μ' => μ' = updM μ R (.lst (acs 0 (ss.take i) ++ (sacs i (.sum g nm a b src a2 b2 oth a3 b3)).take j)), by show updM μ R (.lst (acs 0 (ss.take i))) = updM μ R (.lst (acs 0 (ss.take i) ++ [])); rw [List.append_nil], fun _ _ _ _ => trivial, ?_, ?_⟩
      · rintro j d μ' hj rfl
        match j, hj with
        | 0, hj =>
          obtain rfl : D.int 5 = d := Option.some.inj hj
          exact ⟨[.str "sum", g.D, .str nm, .int a, .int b, .str src, .int a2, .int b2, .str oth, .int a3, .int b3], (i : Nat), 5, _, _, _, rfl, ix5 _ _ _ _ _ _ _, ix6 _ _ _ _ _ _ _ _, ix7 _ _ _ _ _ _ _ _ _, app _ _ _ (bas _ (by simp [sacs])) (by simp [sacs, ac])⟩
        | 1, hj =>
          obtain rfl : D.int 8 = d := Option.some.inj hj
          exact ⟨[.str "sum", g.D, .str nm, .int a, .int b, .str src, .int a2, .int b2, .str oth, .int a3, .int b3], (i : Nat), 8, _, _, _, rfl, ix8 _ _ _ _ _ _ _ _ _ _, ix9 _ _ _ _ _ _ _ _ _ _ _, ix10 _ _ _ _ _ _ _ _ _ _ _ _, app _ _ _ (bas _ (by simp [sacs])) (by simp [sacs, ac])⟩
        | 2, hj =>
          obtain rfl : D.int 2 = d := Option.some.inj hj
          exact ⟨[.str "sum", g.D, .str nm, .int a, .int b, .str src, .int a2, .int b2, .str oth, .int a3, .int b3], (i : Nat), 2, _, _, _, rfl, ix2 _ _ _ _, ix3 _ _ _ _ _, ix4 _ _ _ _ _ _, app _ _ _ (bas _ (by simp [sacs])) (by simp [sacs, ac])⟩
        | j + 3, hj => exact nomatch hj
      · rintro μ' rfl
        show _ = updM μ R (.lst (acs 0 (ss.take (i + 1))))
        rw [e1]
        rfl
  · rintro μ' rfl
    rw [enumD_len, List.length_map, List.take_length]
    refine ⟨_, updM_same _ _ _, ?_⟩
    rcases h with h | h
    · refine .inl ?_
      rw [delM_updM _ hR]
      exact ⟨μ, Sub.refl μ, h⟩
    · exact .inr ⟨_, Sub.refl _, h R hR⟩
def c_accesses (A : Cls) : DSp := fun ds μ q e => ∃ N ss bs, ds = [kD A N ss bs] ∧ ss.length ≤ 1000 ∧ Ei q (acs 0 ss) μ
theorem len_accesses {A : Cls} : ∀ ds μ q e, c_accesses A ds μ q e → ds.length = 1 := fun ds μ q e ⟨_, _, _, h, _⟩ => by rw [h]; rfl
theorem ok_accesses {A : Cls} : ∀ ds μ q e, c_accesses A ds μ q e → rd_accesses A (c_Kernel_statements A) (c_accesses_of A) e (endsD q) (startD 1 ds) μ := by
  rintro ds μ q e ⟨N, ss, bs, rfl, hl, h⟩
  refine ⟨rfl, N, ss, bs, rfl, .inl ⟨ss, rfl, hl, ?_⟩⟩
  exact h.elim (fun h => .inl (fin h rfl)) fun h => .inr fun p hp => fin (h p hp) rfl
end Law

set_option linter.all false
set_option maxRecDepth 100000
set_option maxHeartbeats 2000000
namespace Law
open PySem L2 DL Ar
def c__law_same (A : Cls) : DSp := fun ds μ q e => ∃ l, ds = [.lst l, .lst l] ∧ plainD 64 (.lst l) = true ∧ shownOk (.lst l) ∧ q (.bl true) μ
theorem len__law_same {A : Cls} : ∀ ds μ q e, c__law_same A ds μ q e → ds.length = 2 := fun ds μ q e ⟨_, h, _⟩ => by rw [h]; rfl
theorem ok__law_same {A : Cls} : ∀ ds μ q e, c__law_same A ds μ q e → rd__law_same A e (endsD q) (startD 2 ds) μ := by
  rintro ds μ q e ⟨l, rfl, hp, hs, h⟩
  refine ⟨hp, hs, ?_⟩
  refine ⟨hp, hs, ?_⟩
  exact fin h (congrArg D.bl (decide_eq_true rfl))
def c__law_guard (A : Cls) : DSp := fun ds μ q e => ∃ p m n, ds = [.adr p, .int m] ∧ Src p μ n ∧ n < 2 ^ 60 ∧ 0 ≤ m ∧ m < 2 ^ 100 ∧ ∀ (g : G4) μ', g.ok = true → g.b ≤ m → g.c ≤ 5 → Src p μ' (n + 5) → Ge p μ μ' → q g.D μ'
theorem len__law_guard {A : Cls} : ∀ ds μ q e, c__law_guard A ds μ q e → ds.length = 2 := fun ds μ q e ⟨_, _, _, h, _⟩ => by rw [h]; rfl
theorem ok__law_guard {A : Cls} : ∀ ds μ q e, c__law_guard A ds μ q e → rd__law_guard A (c__law_draw A) e (endsD q) (startD 4 ds) μ := by
  rintro ds μ q e ⟨p, m, n, rfl, hs, hn, m0, m1, h⟩
  refine ⟨p, 3, n, rfl, hs, by omega, by decide, by decide, fun x μ1 x0 x1 hs1 k1 => ?_⟩
  refine iteD (fun z => ?_) (fun z => ?_)
  · refine ⟨sz 4 rfl (by decide), ?_⟩
    exact fin (h ⟨0, m, 1, 0⟩ μ1 (isG_iff.mpr ⟨show (0 : Int) ≤ 0 by decide, m0, show (0 : Int) ≤ 0 by decide, show (0 : Int) < 1 by decide⟩) (Int.le_refl m) (show (1 : Int) ≤ 5 by decide) (hs1.le (by omega)) k1) rfl
  refine ⟨p, m + 1, n + 1, rfl, hs1, by omega, by omega, by omega, fun lo μ2 l0 l1 hs2 k2 => ?_⟩
  refine ⟨p, 5, n + 1 + 1, rfl, hs2, by omega, by decide, by decide, fun y μ3 y0 y1 hs3 k3 => ?_⟩
  refine ⟨p, m - lo + 1, n + 1 + 1 + 1, rfl, hs3, by omega, by omega, by omega, fun w μ4 w0 w1 hs4 k4 => ?_⟩
  refine ⟨p, 1 + y, n + 1 + 1 + 1 + 1, rfl, hs4, by omega, by omega, by omega, fun r μ5 r0 r1 hs5 k5 => ?_⟩
  refine ⟨sz 4 rfl (by decide), ?_⟩
  exact fin (h ⟨lo, lo + w, 1 + y, r⟩ μ5 (isG_iff.mpr ⟨l0, show lo ≤ lo + w by omega, r0, r1⟩) (show lo + w ≤ m by omega) (show 1 + y ≤ 5 by omega) (hs5.le (by omega)) ((((k1.trans k2).trans k3).trans k4).trans k5)) rfl
def c__law_cell (A : Cls) : DSp := fun ds μ q e => ∃ p n, ds = [.adr p] ∧ Src p μ n ∧ n < 2 ^ 60 ∧ ∀ a b μ', -10 ≤ a → a ≤ 10 → -10 ≤ b → b ≤ 10 → Src p μ' (n + 2) → Ge p μ μ' → q (.tup [.int a, .int b]) μ'
theorem len__law_cell {A : Cls} : ∀ ds μ q e, c__law_cell A ds μ q e → ds.length = 1 := fun ds μ q e ⟨_, _, h, _⟩ => by rw [h]; rfl
theorem ok__law_cell {A : Cls} : ∀ ds μ q e, c__law_cell A ds μ q e → rd__law_cell A (c__law_draw A) e (endsD q) (startD 1 ds) μ := by
  rintro ds μ q e ⟨p, n, rfl, hs, hn, h⟩
  refine ⟨p, 6, n, rfl, hs, by omega, by decide, by decide, fun x μ1 x0 x1 hs1 k1 => ?_⟩
  refine ⟨p, 9, n + 1, rfl, hs1, by omega, by decide, by decide, fun y μ2 y0 y1 hs2 k2 => ?_⟩
  refine ⟨sz 2 rfl (by decide), ?_⟩
  exact fin (h (x - 2) (y - 3) μ2 (by omega) (by omega) (by omega) (by omega) (hs2.le (by omega)) (k1.trans k2)) rfl
theorem g_ints {g : G4} {m : Int} (h : g.ok = true) (hb : g.b ≤ m) (hc : g.c ≤ 5) (hm : m < 2 ^ 100) : g.a.natAbs < 10 ^ 40 ∧ g.b.natAbs < 10 ^ 40 ∧ g.c.natAbs < 10 ^ 40 ∧ g.d.natAbs < 10 ^ 40 := by
  obtain ⟨h1, h2, h3, h4⟩ := isG_iff.mp h
  omega
def c__law_statement (A : Cls) : DSp := fun ds μ q e => ∃ p m n, ∃ nms : List Str, ds = [.adr p, .int m, .lst (nms.map D.str)] ∧ nms.length = 3 ∧ (∀ z ∈ nms, nmOk z = true) ∧ Src p μ n ∧ n < 2 ^ 59 ∧ 0 ≤ m ∧ m < 2 ^ 100 ∧ ∀ (s : St) μ', SG m s → (∀ x ∈ s.nl, x.natAbs ≤ 20) → Src p μ' (n + 20) → Ge p μ μ' → q s.d μ'
theorem len__law_statement {A : Cls} : ∀ ds μ q e, c__law_statement A ds μ q e → ds.length = 3 := fun ds μ q e ⟨_, _, _, _, h, _⟩ => by rw [h]; rfl
theorem g_ints31 {g : G4} {m : Int} (h : g.ok = true) (hb : g.b ≤ m) (hc : g.c ≤ 5) (hm : m < 2 ^ 100) : g.a.natAbs < 10 ^ 31 ∧ g.b.natAbs < 10 ^ 31 ∧ g.c.natAbs < 10 ^ 31 ∧ g.d.natAbs < 10 ^ 31 := by
  obtain ⟨h1, h2, h3, h4⟩ := isG_iff.mp h
  omega
theorem ok__law_statement {A : Cls} : ∀ ds μ q e, c__law_statement A ds μ q e → rd__law_statement A (c__law_cell A) (c__law_draw A) (c__law_guard A) e (endsD q) (startD 12 ds) μ := by
  rintro ds μ q e ⟨p, m, n, nms, rfl, hl3, hnms, hs, hn, m0, m1, h⟩
  have nin : ∀ (i : Nat) (v : D), (nms.map D.str)[i]? = some v → ∃ z, v = .str z ∧ nmOk z = true := fun i v hv => by
    obtain ⟨z, h1, rfl⟩ := map_get hv
    exact ⟨z, rfl, hnms z (List.mem_of_getElem? h1)⟩
  have ll : ((nms.map D.str).length : Int) = 3 := by rw [List.length_map]; omega
  refine ⟨p, n, rfl, hs, by omega, fun a b μ1 a0 a1 b0 b1 hs1 k1 => ?_⟩
  refine ⟨p, m, n + 2, rfl, hs1, by omega, m0, m1, fun g μ2 g1 g2 g3 hs2 k2 => ?_⟩
  obtain ⟨ga, gb, gc, gd'⟩ := g_ints31 g1 g2 g3 m1
  refine ⟨sz 2 rfl (by decide), rfl, rfl, ?_⟩
  refine ⟨p, _, n + 2 + 5, rfl, hs2, by omega, by omega, by omega, fun x μ3 x0 x1 hs3 k3 => ?_⟩
  refine ixL x0 x1 fun v hv => ?_
  obtain ⟨nm, rfl, hnm⟩ := nin _ _ hv
  refine ⟨fun i l μ' => ∃ zs : List Str, l = zs.map D.str ∧ zs.length = i ∧ (∀ z ∈ zs, nmOk z = true) ∧ Src p μ' (n + 8 + (i : Nat)) ∧ Ge p μ3 μ', ⟨[], rfl, rfl, by simp, hs3.le (by omega), Ge.refl⟩, fun i l μ' hi hP => ⟨trivial, ?_⟩, ?_, ?_⟩
  · obtain ⟨zs, e1, e2, _⟩ := hP
    rw [ints_len] at hi
    rw [e1, List.length_map, sizeLine_eq]; omega
  · rintro i d l μ' hi ⟨zs, rfl, e2, e3, hs', k'⟩
    obtain ⟨hlt, rfl⟩ := ints_get hi
    refine ⟨p, _, n + 8 + (i : Nat), rfl, hs', by omega, by omega, by omega, fun x μ3 x0 x1 hs3 k3 => ?_⟩
    refine ixL x0 x1 fun v hv => ?_
    obtain ⟨z, rfl, hz⟩ := nin _ _ hv
    refine ⟨zs ++ [z], by simp, by simp [e2], fun y hy => ?_, hs3.le (by omega), k'.trans k3⟩
    rcases List.mem_append.mp hy with w | w
    · exact e3 y w
    · rw [List.mem_singleton.mp w]; exact hz
  · rintro l μ4 ⟨zs, rfl, e2, e3, hs4, k4⟩
    rw [ints_len] at e2 hs4
    match zs, e2 with
    | [z1, z2], _ =>
    have h1 := e3 z1 (by simp); have h2 := e3 z2 (by simp)
    have hs4 := hs4.le (m := n + 10) (by omega)
    refine ⟨p, n + 10, rfl, hs4, by omega, fun a2 b2 μ5 a20 a21 b20 b21 hs5 k5 => ?_⟩
    refine ⟨p, n + 10 + 2, rfl, hs5, by omega, fun a3 b3 μ6 a30 a31 b30 b31 hs6 k6 => ?_⟩
    refine ⟨p, 5, n + 10 + 2 + 2, rfl, hs6, by omega, by decide, by decide, fun y μ7 y0 y1 hs7 k7 => ?_⟩
    have kk := (((((k1.trans k2).trans k3).trans k4).trans k5).trans k6).trans k7
    have sg : ∀ s : St, (∀ z ∈ s.nms, nmOk z = true) → s.g = g → (∀ x ∈ s.nl, x.natAbs ≤ 20) → SG m s := fun s hz hg hx => ⟨⟨hz, by rw [hg]; exact g1, by rw [hg]; exact g2⟩, fun x hx' => by
      rcases List.mem_append.mp hx' with w | w
      · rw [hg] at w
        simp only [List.mem_cons, List.not_mem_nil, or_false] at w
        rcases w with rfl | rfl | rfl | rfl <;> omega
      · have := hx x w; omega⟩
    refine iteD (fun z => ?_) (fun z => ?_)
    · refine ⟨p, 4, n + 10 + 2 + 2 + 1, rfl, hs7, by omega, by decide, by decide, fun c μ8 c0 c1 hs8 k8 => ?_⟩
      refine ⟨p, 6, n + 10 + 2 + 2 + 1 + 1, rfl, hs8, by omega, by decide, by decide, fun d μ9 d0 d1 hs9 k9 => ?_⟩
      refine ⟨sz 7 rfl (by decide), ?_⟩
      have il : ∀ x ∈ (St.put g nm a b (c - 1) (d - 2)).nl, x.natAbs ≤ 20 := fun x hx => by
        simp only [St.nl, List.mem_cons, List.not_mem_nil, or_false] at hx; omega
      refine fin (h (.put g nm a b (c - 1) (d - 2)) μ9 (sg _ ?_ rfl il) il (hs9.le (by omega)) ((kk.trans k8).trans k9)) rfl
      intro z hz; rw [List.mem_singleton.mp hz]; exact hnm
    refine iteD (fun z => ?_) (fun z => ?_)
    · refine ⟨p, 5, n + 10 + 2 + 2 + 1, rfl, hs7, by omega, by decide, by decide, fun d μ8 d0 d1 hs8 k8 => ?_⟩
      refine ⟨sz 9 rfl (by decide), ?_⟩
      have il : ∀ x ∈ (St.move g nm a b z1 a2 b2 (d - 2)).nl, x.natAbs ≤ 20 := fun x hx => by
        simp only [St.nl, List.mem_cons, List.not_mem_nil, or_false] at hx; omega
      refine fin (h (.move g nm a b z1 a2 b2 (d - 2)) μ8 (sg _ ?_ rfl il) il (hs8.le (by omega)) (kk.trans k8)) rfl
      intro z hz; simp only [St.nms, List.mem_cons, List.not_mem_nil, or_false] at hz; rcases hz with rfl | rfl <;> assumption
    · refine ⟨sz 11 rfl (by decide), ?_⟩
      have il : ∀ x ∈ (St.sum g nm a b z1 a2 b2 z2 a3 b3).nl, x.natAbs ≤ 20 := fun x hx => by
        simp only [St.nl, List.mem_cons, List.not_mem_nil, or_false] at hx; omega
      refine fin (h (.sum g nm a b z1 a2 b2 z2 a3 b3) μ7 (sg _ ?_ rfl il) il (hs7.le (by omega)) kk) rfl
      intro z hz; simp only [St.nms, List.mem_cons, List.not_mem_nil, or_false] at hz; rcases hz with rfl | rfl | rfl <;> assumption
/-! names -/
theorem join_signs : ∀ cs : List Nat, TL.joinL [] (cs.map fun c => [c]) = cs
  | [] => rfl
  | [c] => rfl
  | c :: d :: r => by
    show [c] ++ ([] ++ TL.joinL [] ((d :: r).map fun c => [c])) = _
    rw [join_signs (d :: r)]; rfl
theorem join_tl (cs : List Nat) : (Txt.join "" (cs.map fun c => (⟨#[c]⟩ : Str))).cps.toList = cs := by
  have e := TL.tl_join "" (cs.map fun c => (⟨#[c]⟩ : Str))
  rw [← TL.join_eq, List.map_map] at e
  have e2 : (TL.tl ∘ fun c => (⟨#[c]⟩ : Str)) = fun c => [c] := rfl
  rw [e2, show TL.tl "" = [] from by decide +kernel, join_signs] at e
  exact e
def letters : Str := "abcdefghijklmnopqrstuvwxyz"
theorem letters_eq : letters.cps.toList = (List.range 26).map fun i => i + 97 := by decide +kernel
theorem letters_ok : letters.cps.toList.all sgOk = true := by decide +kernel
theorem letters_len : letters.cps.toList.length = 26 := by decide +kernel
def c__law_name (A : Cls) : DSp := fun ds μ q e => ∃ p n, ds = [.adr p] ∧ Src p μ n ∧ n < 2 ^ 59 ∧ ∀ z μ', nmOk z = true → Src p μ' (n + 10) → Ge p μ μ' → q (.str z) μ'
theorem len__law_name {A : Cls} : ∀ ds μ q e, c__law_name A ds μ q e → ds.length = 1 := fun ds μ q e ⟨_, _, h, _⟩ => by rw [h]; rfl
theorem ok__law_name {A : Cls} : ∀ ds μ q e, c__law_name A ds μ q e → rd__law_name A (c__law_draw A) e (endsD q) (startD 3 ds) μ := by
  rintro ds μ q e ⟨p, n, rfl, hs, hn, h⟩
  refine ⟨p, 8, n, rfl, hs, by omega, by decide, by decide, fun x μ1 x0 x1 hs1 k1 => ?_⟩
  refine ⟨fun i l μ' => ∃ cs : List Nat, l = (cs.map fun c => (⟨#[c]⟩ : Str)).map D.str ∧ cs.length = i ∧ cs.all sgOk = true ∧ Src p μ' (n + 1 + (i : Nat)) ∧ Ge p μ1 μ', ⟨[], rfl, rfl, rfl, hs1.le (by omega), Ge.refl⟩, fun i l μ' hi hP => ⟨trivial, ?_⟩, ?_, ?_⟩
  · obtain ⟨cs, rfl, e2, _⟩ := hP
    rw [ints_len] at hi
    rw [List.length_map, List.length_map, sizeLine_eq]; omega
  · rintro i d l μ' hi ⟨cs, rfl, e2, e3, hs', k'⟩
    obtain ⟨hlt, rfl⟩ := ints_get hi
    refine ⟨p, 26, _, rfl, hs', by omega, by decide, by decide, fun v μ2 v0 v1 hs2 k2 => ?_⟩
    obtain ⟨c, h1, h2⟩ := atI_some (l := letters.cps.toList) v0 (by rw [letters_len]; exact v1)
    refine ⟨by decide +kernel, ?_⟩
    have fin2 : ∃ cs2 : List Nat, (cs.map fun c => (⟨#[c]⟩ : Str)).map D.str ++ [D.str ⟨#[c]⟩] = (cs2.map fun c => (⟨#[c]⟩ : Str)).map D.str ∧ cs2.length = i + 1 ∧ cs2.all sgOk = true ∧ Src p μ2 (n + 1 + ((i + 1 : Nat) : Int)) ∧ Ge p μ1 μ2 := by
      refine ⟨cs ++ [c], by simp, by simp [e2], ?_, hs2.le (by omega), k'.trans k2⟩
      rw [List.all_append, e3]
      have := List.all_eq_true.mp letters_ok c (List.mem_of_getElem? h2)
      simp [this]
    show (match atI letters.cps.toList v with | some c => _ | none => False)
    rw [h1]
    exact fin2
  · rintro l μ2 ⟨cs, rfl, e2, e3, hs2, k2⟩
    rw [ints_len] at e2 hs2
    refine ⟨_, rfl, ?_, ?_⟩
    · have : ∀ cs : List Nat, (((cs.map fun c => (⟨#[c]⟩ : Str)).map (·.length)).sum = cs.length) := fun cs => by
        induction cs with
        | nil => rfl
        | cons c r ih =>
          rw [List.map_cons, List.map_cons, List.sum_cons, ih, List.length_cons]
          show 1 + r.length = _
          omega
      rw [this, List.length_map, show ("" : Str).length = 0 from by decide +kernel]
      omega
    · refine fin (h (Txt.join "" (cs.map fun c => (⟨#[c]⟩ : Str))) μ2 ?_ (hs2.le (by omega)) (k1.trans k2)) rfl
      have l1 : (Txt.join "" (cs.map fun c => (⟨#[c]⟩ : Str))).length = cs.length := by rw [str_len, join_tl]
      unfold nmOk
      rw [join_tl, e3, l1, decide_eq_true (by omega), decide_eq_true (by omega)]; rfl
end Law

set_option linter.all false
set_option maxRecDepth 100000
set_option maxHeartbeats 2000000
/-! parts, phases, far statements -/
namespace Law
open PySem L2 DL Ar
def c__law_phase (A : Cls) : DSp := fun ds μ q e => ∃ (bs : List Int) (i : Int), ds = [.lst (bs.map D.int), .int i] ∧ bs.length ≤ 1000 ∧ q (.int (cu bs i)) μ
theorem len__law_phase {A : Cls} : ∀ ds μ q e, c__law_phase A ds μ q e → ds.length = 2 := fun ds μ q e ⟨_, _, h, _⟩ => by rw [h]; rfl
theorem ok__law_phase {A : Cls} : ∀ ds μ q e, c__law_phase A ds μ q e → rd__law_phase A e (endsD q) (startD 3 ds) μ := ok_count_up_to (A := A)
/-- an access with the guard and what is put behind it -/
def pc (k : Nat) (w z : Str) (a b : Int) (g : G4) (y : D) : D := .tup [.int k, .str w, .str z, .int a, .int b, g.D, y]
def spc (k : Nat) : St → List D
  | .put g nm a b c d => [pc k "write" nm a b g (.tup [.int c, .int d])]
  | .move g nm a b src a2 b2 _ => [pc k "read" src a2 b2 g .non, pc k "write" nm a b g .non]
  | .sum g nm a b src a2 b2 oth a3 b3 => [pc k "read" src a2 b2 g .non, pc k "read" oth a3 b3 g .non, pc k "write" nm a b g .non]
def pcs : Nat → List St → List D
  | _, [] => []
  | k, s :: r => spc k s ++ pcs (k + 1) r
theorem pcs_snoc {s : St} : ∀ {ss : List St} {k : Nat}, pcs k (ss ++ [s]) = pcs k ss ++ spc (k + ss.length) s
  | [], k => by simp [pcs]
  | t :: r, k => by
    rw [List.cons_append, pcs, pcs, pcs_snoc, List.append_assoc, List.length_cons, Nat.add_right_comm, Nat.add_assoc]
theorem spc_len (k : Nat) (s : St) : (spc k s).length ≤ 3 := by cases s <;> simp [spc]
theorem pcs_len : ∀ {ss : List St} {k : Nat}, (pcs k ss).length ≤ 3 * ss.length
  | [], _ => Nat.le_refl _
  | s :: r, k => by
    rw [pcs, List.length_append, List.length_cons]
    have := spc_len k s
    have := pcs_len (ss := r) (k := k + 1)
    omega
/-- its first five -/
def five : D → D
  | .tup l => .tup (cutD l none (some 5))
  | d => d
theorem spc_five (k : Nat) (s : St) : (spc k s).map five = sacs k s := by cases s <;> rfl
theorem pcs_five : ∀ {ss : List St} {k : Nat}, (pcs k ss).map five = acs k ss
  | [], _ => rfl
  | s :: r, k => by rw [pcs, List.map_append, spc_five, pcs_five]; rfl
theorem spc_tup {k : Nat} {s : St} : ∀ d ∈ spc k s, ∃ l, d = .tup l ∧ l.length = 7 := by
  intro d hd
  cases s <;> simp only [spc, List.mem_cons, List.not_mem_nil, or_false] at hd
  · exact ⟨_, hd, rfl⟩
  · rcases hd with h | h <;> exact ⟨_, h, rfl⟩
  · rcases hd with h | h | h <;> exact ⟨_, h, rfl⟩
theorem pcs_tup : ∀ {ss : List St} {k : Nat}, ∀ d ∈ pcs k ss, ∃ l, d = .tup l ∧ l.length = 7
  | [], _, _, h => nomatch h
  | s :: r, k, d, h => by
    rcases List.mem_append.mp h with z | z
    · exact spc_tup d z
    · exact pcs_tup d z
def c__law_parts (A : Cls) : DSp := fun ds μ q e => ∃ ss : List St, ds = [.lst (ss.map St.d)] ∧ ss.length ≤ 1000 ∧ q (.lst (pcs 0 ss)) μ
theorem len__law_parts {A : Cls} : ∀ ds μ q e, c__law_parts A ds μ q e → ds.length = 1 := fun ds μ q e ⟨_, h, _⟩ => by rw [h]; rfl
theorem w_pm : ¬ (("put" : Str) = "move") := by decide +kernel
theorem w_ps : ¬ (("put" : Str) = "sum") := by decide +kernel
theorem w_mp : ¬ (("move" : Str) = "put") := by decide +kernel
theorem w_ms : ¬ (("move" : Str) = "sum") := by decide +kernel
theorem w_sp : ¬ (("sum" : Str) = "put") := by decide +kernel
theorem w_sm : ¬ (("sum" : Str) = "move") := by decide +kernel
theorem ok__law_parts {A : Cls} : ∀ ds μ q e, c__law_parts A ds μ q e → rd__law_parts A e (endsD q) (startD 5 ds) μ := by
  rintro ds μ q e ⟨ss, rfl, hl, h⟩
  refine ⟨sz 0 rfl (by decide), fun R hR => ?_⟩
  refine ⟨fun i δ μ' => ∃ x2 x3 x4, δ = [some (.lst (ss.map St.d)), some (.adr R), x2, x3, x4] ∧ μ' = updM μ R (.lst (pcs 0 (ss.take i))), ⟨_, _, _, rfl, rfl⟩, fun _ _ _ _ _ => trivial, ?_, ?_⟩
  · rintro i d δ μ' hi ⟨x2, x3, x4, rfl, rfl⟩
    obtain ⟨x, hx, rfl⟩ := enum_get hi
    obtain ⟨s, hs, rfl⟩ := map_get hx
    have il : i < ss.length := (List.getElem?_eq_some_iff.mp hs).1
    have e1 : pcs 0 (ss.take (i + 1)) = pcs 0 (ss.take i) ++ spc i s := by
      rw [List.take_add_one, hs, Option.toList_some, pcs_snoc, List.length_take, Nat.zero_add, Nat.min_eq_left (by omega)]
    have l1 : (pcs 0 (ss.take i)).length ≤ 3000 := by
      have := pcs_len (ss := ss.take i) (k := 0)
      have := List.length_take_le' i ss
      omega
    have bas : ∀ m : List D, m.length ≤ 4 → (pcs 0 (ss.take i) ++ m).length < sizeLine := fun m hm => by rw [List.length_append, sizeLine_eq]; omega
    cases s with
    | put g nm a b c d =>
      refine ⟨rfl, ?_⟩
      refine ⟨⟨_, updM_same _ _ _⟩, sz 7 rfl (by decide), _, updM_same _ _ _, (by simpa using bas [] (by simp)), ?_⟩
      exact ⟨_, _, _, rfl, by rw [e1, updM_updM]; rfl⟩
    | move g nm a b src a2 b2 d =>
      refine ⟨rfl, ?_⟩
      refine ⟨⟨_, updM_same _ _ _⟩, sz 7 rfl (by decide), _, updM_same _ _ _, (by simpa using bas [] (by simp)), ?_⟩
      refine ⟨⟨_, updM_same _ _ _⟩, sz 7 rfl (by decide), _, updM_same _ _ _, (bas _ (by simp)), ?_⟩
      exact ⟨_, _, _, rfl, by rw [e1, updM_updM, updM_updM, List.append_assoc]; rfl⟩
    | sum g nm a b src a2 b2 oth a3 b3 =>
      refine ⟨rfl, ?_⟩
      refine ⟨⟨_, updM_same _ _ _⟩, sz 7 rfl (by decide), _, updM_same _ _ _, (by simpa using bas [] (by simp)), ?_⟩
      refine ⟨⟨_, updM_same _ _ _⟩, sz 7 rfl (by decide), _, updM_same _ _ _, (bas _ (by simp)), ?_⟩
      refine ⟨⟨_, updM_same _ _ _⟩, sz 7 rfl (by decide), _, updM_same _ _ _, (by rw [List.append_assoc]; exact bas _ (by simp)), ?_⟩
      exact ⟨_, _, _, rfl, by rw [e1, updM_updM, updM_updM, updM_updM, List.append_assoc, List.append_assoc]; rfl⟩
  · rintro δ μ' ⟨x2, x3, x4, rfl, rfl⟩
    rw [enumD_len, List.length_map, List.take_length]
    show (match updM μ R (.lst (pcs 0 ss)) R with | some (.lst l) => _ | _ => False)
    rw [updM_same]
    exact ⟨_, Sub.refl _, by rw [delM_updM _ hR]; exact h⟩
/-! a statement far out -/
def farI (x : Int) : Int := x * 100000000000000000000 + 7
def St.far : St → St
  | .put g nm a b c d => .put g nm (farI a) (farI b) (farI c) (farI d)
  | .move g nm a b src a2 b2 d => .move g nm (farI a) (farI b) src (farI a2) (farI b2) (farI d)
  | .sum g nm a b src a2 b2 oth a3 b3 => .sum g nm (farI a) (farI b) src (farI a2) (farI b2) oth (farI a3) (farI b3)
def c__law_far_statement (A : Cls) : DSp := fun ds μ q e => ∃ (x : D) (s : St), ds = [x, s.d] ∧ (∀ x ∈ s.nl, x.natAbs ≤ 20) ∧ q s.far.d μ
theorem len__law_far_statement {A : Cls} : ∀ ds μ q e, c__law_far_statement A ds μ q e → ds.length = 2 := fun ds μ q e ⟨_, _, h, _⟩ => by rw [h]; rfl
def farD : D → D
  | .int x => .int (x * 10 ^ (20 : Int).toNat + 7)
  | d => d
def intStr : D → Prop
  | .int x => x.natAbs ≤ 20
  | .str _ => True
  | _ => False
theorem szN {k : Nat} (n : Nat) (e : k = n) (h : n ≤ 1000 := by decide) : k ≤ sizeLine := by rw [sizeLine_eq]; omega
theorem far_lc {A : Cls} {s x : D} {o3 : List D} {μ : Mu} {q : DK} (hl : o3.length ≤ 100) (hi : ∀ d ∈ o3, intStr d) (h : q (.tup (o3.map farD)) μ) (hc : ∀ q : DK, q (.tup o3) μ → dSl (dVar 1) (dPart (dC (.int 3))) dNoPart [some x, some s, none] μ q) :
    dCB rTupleD (dCons (dLc (diSq (dSl (dVar 1) (dPart (dC (.int 3))) dNoPart)) (dgName 2) dYes (dIf (dTru (dCB rIsIntD (dCons (dVar 2) (dCons (dC (.typ "int")) dNil)))) (dOp rAddD (dOp rMulD (dVar 2) (dOp rPowD (dC (.int 10)) (dC (.int 20)))) (dC (.int 7))) (dVar 2)) [2]) dNil) [some x, some s, none] μ q := by
  dsimp only [dCB, dCons, dLc, diSq]
  refine hc _ ?_
  refine ⟨fun i l μ' => μ' = μ ∧ l = (o3.take i).map farD, ⟨rfl, rfl⟩, fun i l μ' hi hP => ⟨trivial, ?_⟩, ?_, ?_⟩
  · rw [hP.2, List.length_map, sizeLine_eq]
    have := List.length_take_le' i o3
    omega
  · rintro i d l μ' hd ⟨rfl, rfl⟩
    have hd2 := hi d (List.mem_of_getElem? hd)
    have e : (o3.take (i + 1)).map farD = (o3.take i).map farD ++ [farD d] := by rw [List.take_add_one, hd, List.map_append]; rfl
    cases d with
    | int y =>
      have hy : y.natAbs ≤ 20 := hd2
      refine ⟨rfl, true, rfl, ?_⟩
      refine ⟨CPow_of (j := 20) (by decide) (by decide) (by decide), ?_⟩
      refine ⟨CMul_of (by omega) (by omega) (by decide) (by decide), ?_⟩
      exact ⟨rfl, by rw [e]; rfl⟩
    | str y =>
      refine ⟨rfl, false, rfl, ?_⟩
      exact ⟨rfl, by rw [e]; rfl⟩
    | _ => exact hd2.elim
  · rintro l μ' ⟨rfl, rfl⟩
    rw [List.take_length]
    exact h
theorem ok__law_far_statement {A : Cls} : ∀ ds μ q e, c__law_far_statement A ds μ q e → rd__law_far_statement A e (endsD q) (startD 3 ds) μ := by
  rintro ds μ q e ⟨x, s, rfl, hil, h⟩
  have p20 : (10 : Int) ^ (20 : Int).toNat = 100000000000000000000 := by decide
  have fe : ∀ y : Int, farD (.int y) = .int (farI y) := fun y => by show D.int _ = D.int _; rw [p20]; rfl
  cases s with
  | put g nm a b c d =>
    refine far_lc (A := A) (x := x) (s := St.d (.put g nm a b c d)) (o3 := [.int a, .int b, .int c, .int d]) (by simp) ?_ ?_ (fun q k => k)
    · intro y hy
      simp only [List.mem_cons, List.not_mem_nil, or_false] at hy
      rcases hy with rfl | rfl | rfl | rfl <;> exact hil _ (by simp [St.nl])
    · refine ⟨(fun z => nomatch z), szN 7 rfl, fin h ?_⟩
      simp only [List.map_cons, List.map_nil, fe]
      rfl
  | move g nm a b src a2 b2 d =>
    refine far_lc (A := A) (x := x) (s := St.d (.move g nm a b src a2 b2 d)) (o3 := [.int a, .int b, .str src, .int a2, .int b2, .int d]) (by simp) ?_ ?_ (fun q k => k)
    · intro y hy
      simp only [List.mem_cons, List.not_mem_nil, or_false] at hy
      rcases hy with rfl | rfl | rfl | rfl | rfl | rfl <;> first | exact hil _ (by simp [St.nl]) | exact trivial
    · refine ⟨(fun z => nomatch z), szN 9 rfl, fin h ?_⟩
      simp only [List.map_cons, List.map_nil, fe]
      rfl
  | sum g nm a b src a2 b2 oth a3 b3 =>
    refine far_lc (A := A) (x := x) (s := St.d (.sum g nm a b src a2 b2 oth a3 b3)) (o3 := [.int a, .int b, .str src, .int a2, .int b2, .str oth, .int a3, .int b3]) (by simp) ?_ ?_ (fun q k => k)
    · intro y hy
      simp only [List.mem_cons, List.not_mem_nil, or_false] at hy
      rcases hy with rfl | rfl | rfl | rfl | rfl | rfl | rfl | rfl <;> first | exact hil _ (by simp [St.nl]) | exact trivial
    · refine ⟨(fun z => nomatch z), szN 11 rfl, fin h ?_⟩
      simp only [List.map_cons, List.map_nil, fe]
      rfl
theorem far_g (s : St) : s.far.g = s.g := by cases s <;> rfl
theorem far_nms (s : St) : s.far.nms = s.nms := by cases s <;> rfl
theorem far_nl (s : St) : s.far.nl = s.nl.map farI := by cases s <;> rfl
theorem far_sg {m : Int} {s : St} (h : SG m s) (hil : ∀ x ∈ s.nl, x.natAbs ≤ 20) : SG m s.far := by
  refine ⟨⟨by rw [far_nms]; exact h.nm, by rw [far_g]; exact h.ok, by rw [far_g]; exact h.le⟩, fun x hx => ?_⟩
  rcases List.mem_append.mp hx with w | w
  · rw [far_g] at w
    exact h.sl x (List.mem_append_left _ w)
  · rw [far_nl] at w
    obtain ⟨y, hy, rfl⟩ := List.mem_map.mp w
    have := hil y hy
    unfold farI
    omega
end Law

set_option linter.all false
set_option maxRecDepth 100000
set_option maxHeartbeats 2000000
/-! bent programs -/
namespace Law
open PySem L2 DL Ar
theorem eqD_nil (l : List D) : eqD (.lst l) (.lst []) = l.isEmpty := by
  cases l with
  | nil => rfl
  | cons a r => rfl
theorem Ge.del {p r : Addr} {μ μ' : Mu} (k : Ge p μ μ') (h : μ r = none) : Ge p μ (delM μ' r) := fun a m' z e => by
  have : a ≠ r := fun z => by rw [z, h] at e; cases e
  exact (if_neg this).trans (k a m' z e)
theorem Src.del {p r : Addr} {μ : Mu} {n : Int} (h : Src p μ n) (k : r ≠ p) : Src p (delM μ r) n := h.at (if_neg (Ne.symm k))
theorem Src.upn {p r : Addr} {μ : Mu} {n : Int} {m : M} (h : Src p μ n) (k : r ≠ p) : Src p (updM μ r m) n := h.at (updM_ne k.symm)
def St.l : St → List D
  | .put g nm a b c d => [.str "put", g.D, .str nm, .int a, .int b, .int c, .int d]
  | .move g nm a b src a2 b2 d => [.str "move", g.D, .str nm, .int a, .int b, .str src, .int a2, .int b2, .int d]
  | .sum g nm a b src a2 b2 oth a3 b3 => [.str "sum", g.D, .str nm, .int a, .int b, .str src, .int a2, .int b2, .str oth, .int a3, .int b3]
theorem St.d_l (s : St) : s.d = .tup s.l := by cases s <;> rfl
def G4.up (g : G4) : G4 := ⟨g.a, g.b, g.c + 1, g.d⟩
theorem up_ok {g : G4} (h : g.ok = true) : g.up.ok = true := by
  obtain ⟨h1, h2, h3, h4⟩ := isG_iff.mp h
  exact isG_iff.mpr ⟨h1, h2, h3, show g.d < g.c + 1 by omega⟩
theorem l_len (s : St) : 7 ≤ s.l.length ∧ s.l.length ≤ 11 := by cases s <;> simp [St.l]
theorem bent_cases {m : Int} {s : St} (h : SW m s) {j : Nat} (h1 : 1 ≤ j) (h2 : j < s.l.length) :
    (j = 1 ∧ ∃ g : G4, s.l[1]? = some g.D ∧ ∃ s', s.l.set 1 g.up.D = s'.l ∧ SW m s') ∨ (j ≠ 1 ∧ ∃ z, s.l[j]? = some (.str z) ∧ ∀ z', nmOk z' = true → ∃ s', s.l.set j (.str z') = s'.l ∧ SW m s') ∨
    (j ≠ 1 ∧ ∃ x, s.l[j]? = some (.int x) ∧ ∀ y, ∃ s', s.l.set j (.int y) = s'.l ∧ SW m s') := by
  cases s with
  | put g nm a b c d =>
    match j, h1, h2 with
    | 1, _, _ => exact .inl ⟨rfl, g, rfl, .put g.up nm a b c d, rfl, h.nm, up_ok h.ok, h.le⟩
    | 2, _, _ => exact .inr (.inl ⟨by decide, nm, rfl, fun z hz => ⟨.put g z a b c d, rfl, by simpa [St.nms] using hz, h.ok, h.le⟩⟩)
    | 3, _, _ => exact .inr (.inr ⟨by decide, a, rfl, fun y => ⟨.put g nm y b c d, rfl, h.nm, h.ok, h.le⟩⟩)
    | 4, _, _ => exact .inr (.inr ⟨by decide, b, rfl, fun y => ⟨.put g nm a y c d, rfl, h.nm, h.ok, h.le⟩⟩)
    | 5, _, _ => exact .inr (.inr ⟨by decide, c, rfl, fun y => ⟨.put g nm a b y d, rfl, h.nm, h.ok, h.le⟩⟩)
    | 6, _, _ => exact .inr (.inr ⟨by decide, d, rfl, fun y => ⟨.put g nm a b c y, rfl, h.nm, h.ok, h.le⟩⟩)
    | j + 7, _, h2 => exact absurd h2 (by simp [St.l])
  | move g nm a b src a2 b2 d =>
    have n1 := h.nm nm (by simp [St.nms]); have n2 := h.nm src (by simp [St.nms])
    match j, h1, h2 with
    | 1, _, _ => exact .inl ⟨rfl, g, rfl, .move g.up nm a b src a2 b2 d, rfl, h.nm, up_ok h.ok, h.le⟩
    | 2, _, _ => exact .inr (.inl ⟨by decide, nm, rfl, fun z hz => ⟨.move g z a b src a2 b2 d, rfl, by simp [St.nms, hz, n2], h.ok, h.le⟩⟩)
    | 3, _, _ => exact .inr (.inr ⟨by decide, a, rfl, fun y => ⟨.move g nm y b src a2 b2 d, rfl, h.nm, h.ok, h.le⟩⟩)
    | 4, _, _ => exact .inr (.inr ⟨by decide, b, rfl, fun y => ⟨.move g nm a y src a2 b2 d, rfl, h.nm, h.ok, h.le⟩⟩)
    | 5, _, _ => exact .inr (.inl ⟨by decide, src, rfl, fun z hz => ⟨.move g nm a b z a2 b2 d, rfl, by simp [St.nms, hz, n1], h.ok, h.le⟩⟩)
    | 6, _, _ => exact .inr (.inr ⟨by decide, a2, rfl, fun y => ⟨.move g nm a b src y b2 d, rfl, h.nm, h.ok, h.le⟩⟩)
    | 7, _, _ => exact .inr (.inr ⟨by decide, b2, rfl, fun y => ⟨.move g nm a b src a2 y d, rfl, h.nm, h.ok, h.le⟩⟩)
    | 8, _, _ => exact .inr (.inr ⟨by decide, d, rfl, fun y => ⟨.move g nm a b src a2 b2 y, rfl, h.nm, h.ok, h.le⟩⟩)
    | j + 9, _, h2 => exact absurd h2 (by simp [St.l])
  | sum g nm a b src a2 b2 oth a3 b3 =>
    have n1 := h.nm nm (by simp [St.nms]); have n2 := h.nm src (by simp [St.nms]); have n3 := h.nm oth (by simp [St.nms])
    match j, h1, h2 with
    | 1, _, _ => exact .inl ⟨rfl, g, rfl, .sum g.up nm a b src a2 b2 oth a3 b3, rfl, h.nm, up_ok h.ok, h.le⟩
    | 2, _, _ => exact .inr (.inl ⟨by decide, nm, rfl, fun z hz => ⟨.sum g z a b src a2 b2 oth a3 b3, rfl, by simp [St.nms, hz, n2, n3], h.ok, h.le⟩⟩)
    | 3, _, _ => exact .inr (.inr ⟨by decide, a, rfl, fun y => ⟨.sum g nm y b src a2 b2 oth a3 b3, rfl, h.nm, h.ok, h.le⟩⟩)
    | 4, _, _ => exact .inr (.inr ⟨by decide, b, rfl, fun y => ⟨.sum g nm a y src a2 b2 oth a3 b3, rfl, h.nm, h.ok, h.le⟩⟩)
    | 5, _, _ => exact .inr (.inl ⟨by decide, src, rfl, fun z hz => ⟨.sum g nm a b z a2 b2 oth a3 b3, rfl, by simp [St.nms, hz, n1, n3], h.ok, h.le⟩⟩)
    | 6, _, _ => exact .inr (.inr ⟨by decide, a2, rfl, fun y => ⟨.sum g nm a b src y b2 oth a3 b3, rfl, h.nm, h.ok, h.le⟩⟩)
    | 7, _, _ => exact .inr (.inr ⟨by decide, b2, rfl, fun y => ⟨.sum g nm a b src a2 y oth a3 b3, rfl, h.nm, h.ok, h.le⟩⟩)
    | 8, _, _ => exact .inr (.inl ⟨by decide, oth, rfl, fun z hz => ⟨.sum g nm a b src a2 b2 z a3 b3, rfl, by simp [St.nms, hz, n1, n2], h.ok, h.le⟩⟩)
    | 9, _, _ => exact .inr (.inr ⟨by decide, a3, rfl, fun y => ⟨.sum g nm a b src a2 b2 oth y b3, rfl, h.nm, h.ok, h.le⟩⟩)
    | 10, _, _ => exact .inr (.inr ⟨by decide, b3, rfl, fun y => ⟨.sum g nm a b src a2 b2 oth a3 y, rfl, h.nm, h.ok, h.le⟩⟩)
    | j + 11, _, h2 => exact absurd h2 (by simp [St.l])
theorem sts_plain {m : Int} {ss : List St} (h : ∀ s ∈ ss, SW m s) : plainDs 60 (ss.map St.d) = true := plainDs_iff.mpr fun d hd => by
  obtain ⟨s, hs, rfl⟩ := List.mem_map.mp hd
  exact (h s hs).plain
theorem plain_up {k : Nat} : (∀ (d : D), plainD k d = true → plainD (k + 1) d = true) := by
  intro d
  have core : ∀ n (d : D) k, sizeOf d ≤ n → plainD k d = true → plainD (k + 1) d = true := by
    intro n
    induction n with
    | zero => intro d k hn; cases d <;> simp at hn
    | succ n ih =>
      intro d k hn h
      have seq : ∀ l : List D, sizeOf l < n + 1 → plainDs k l = true → plainDs (k + 1) l = true := fun l hl hp => plainDs_iff.mpr fun x hx => ih x k (by have := List.sizeOf_lt_of_mem hx; omega) (plainDs_iff.mp hp x hx)
      cases d with
      | non => rfl
      | bl b => rfl
      | int i => rfl
      | str z => exact h
      | tup l => cases k with
        | zero => simp [plainD] at h
        | succ k => exact plainDs_iff.mpr fun x hx => ih x k (by have := List.sizeOf_lt_of_mem hx; simp at hn; omega) (plainDs_iff.mp h x hx)
      | lst l => cases k with
        | zero => simp [plainD] at h
        | succ k => exact plainDs_iff.mpr fun x hx => ih x k (by have := List.sizeOf_lt_of_mem hx; simp at hn; omega) (plainDs_iff.mp h x hx)
      | rol l => cases k with
        | zero => simp [plainD] at h
        | succ k => exact plainDs_iff.mpr fun x hx => ih x k (by have := List.sizeOf_lt_of_mem hx; simp at hn; omega) (plainDs_iff.mp h x hx)
      | _ => simp [plainD] at h
  exact core _ d k (Nat.le_refl _)
theorem plainDs_up {k : Nat} {l : List D} (h : plainDs k l = true) : plainDs (k + 1) l = true := plainDs_iff.mpr fun x hx => plain_up x (plainDs_iff.mp h x hx)
theorem sts63 {m : Int} {ss : List St} (h : ∀ s ∈ ss, SW m s) : plainDs 63 (ss.map St.d) = true := plainDs_up (plainDs_up (plainDs_up (sts_plain h)))
theorem ixN_nat {n j : Nat} (h : j < n) : ixN n (j : Int) = some j := by
  unfold ixN; simp; omega
theorem lstA {μ : Mu} {p : Addr} {l : List D} (h : μ p = some (.lst l)) : lstOf μ (.adr p) = some l := by simp [lstOf, h]
theorem seqA {μ : Mu} {p : Addr} {l : List D} (h : μ p = some (.lst l)) : seqOf μ (.adr p) = some l := lstA h
theorem ret_f {q : DK} {i : Nat} {g : Addr} {l : List D} {δ : DS} {μ μ2 : Mu} (hδ : δ[i]? = some (some (.adr g))) (hm : μ g = some (.lst l)) (s : Sub μ2 (delM μ g)) (k : q (.lst l) μ2) : dRet (dVarF i) (endsD q) δ μ := by
  show (match δ[i]? with
    | some (some (.adr p)) => (match μ p with
      | some (.lst l) => (endsD q).rt (.lst l) (delM μ p)
      | _ => False)
    | some (some d) => (endsD q).rt d μ
    | _ => False)
  rw [hδ]
  show (match μ g with
      | some (.lst l) => (endsD q).rt (.lst l) (delM μ g)
      | _ => False)
  rw [hm]
  exact ⟨μ2, s, k⟩
theorem bent_tail {A : Cls} {p F I : Addr} {ss : List St} {j : Nat} {s' : St} {m n : Int} {μ μ5 : Mu} {q : DK} {x0 x1 x5 : Option D} (hj : j < ss.length) (hF : μ5 F = some (.lst (ss.map St.d))) (hI : μ5 I = some (.lst s'.l)) (hsg : ∀ s ∈ ss, SW m s) (hw : SW m s') (neF : F ≠ p) (hFn : μ F = none) (hs5 : Src p μ5 n) (k5 : Ge p μ μ5)
    (h : ∀ (ss' : List St) μ', (∀ s ∈ ss', SW m s) → ss'.length = ss.length → Src p μ' n → Ge p μ μ' → q (.lst (ss'.map St.d)) μ') :
    dSeq (dAsg (dCB rTupleD (dCons (dVar 4) dNil)) (dgItem (dVar 3) (dVar 2))) (dRet (dVarF 3)) (endsD q) [x0, x1, some (.int (j : Nat)), some (.adr F), some (.adr I), x5] μ5 := by
  conv => whnf
  rw [seqA hI]
  have lm : (ss.map St.d).length = ss.length := List.length_map ..
  refine ⟨_, j, hF, ixN_nat (by rw [lm]; exact hj), ?_⟩
  rw [← St.d_l]
  have e : (ss.map St.d).set j s'.d = (ss.set j s').map St.d := (List.map_set ..).symm
  rw [e]
  show (match updM μ5 F (.lst ((ss.set j s').map St.d)) F with | some (.lst l) => _ | _ => False)
  rw [updM_same]
  refine ⟨_, Sub.refl _, h (ss.set j s') _ ?_ (List.length_set ..) ((hs5.upn neF).del neF) ((k5.set hFn).del hFn)⟩
  intro s hs
  rcases List.mem_or_eq_of_mem_set hs with z | rfl
  · exact hsg s z
  · exact hw
def c__law_bent (A : Cls) : DSp := fun ds μ q e => ∃ (p : Addr) (ss : List St) (m n : Int), ds = [.adr p, .lst (ss.map St.d)] ∧ Src p μ n ∧ n < 2 ^ 58 ∧ (∀ s ∈ ss, SW m s) ∧ ss.length ≤ 1000 ∧ ∀ (ss' : List St) μ', (∀ s ∈ ss', SW m s) → ss'.length = ss.length → Src p μ' (n + 20) → Ge p μ μ' → q (.lst (ss'.map St.d)) μ'
theorem len__law_bent {A : Cls} : ∀ ds μ q e, c__law_bent A ds μ q e → ds.length = 2 := fun ds μ q e ⟨_, _, _, _, h, _⟩ => by rw [h]; rfl
theorem ok__law_bent {A : Cls} : ∀ ds μ q e, c__law_bent A ds μ q e → rd__law_bent A (c__law_draw A) (c__law_name A) e (endsD q) (startD 6 ds) μ := by
  rintro ds μ q e ⟨p, ss, m, n, rfl, hs, hn, hsg, hl, h⟩
  refine ⟨sz 0 rfl (by decide), sts63 hsg, rfl, ?_⟩
  refine iteB (fun z => ?_) (fun z => ?_)
  · exact fin (h ss μ hsg rfl (hs.le (by omega)) Ge.refl) rfl
  have z : eqD (.lst (ss.map St.d)) (.lst []) = false := z
  have ne : 0 < ss.length := by
    rw [eqD_nil] at z
    cases ss with
    | nil => cases z
    | cons a r => simp
  have lm : (ss.map St.d).length = ss.length := List.length_map ..
  refine ⟨p, ((ss.map St.d).length : Nat), n, rfl, hs, by omega, by omega, by omega, fun x μ1 x0 x1 hs1 k1 => ?_⟩
  intro F hF
  have neF : F ≠ p := hs1.ne hF
  obtain ⟨v, h1, h2⟩ := atI_some (l := ss.map St.d) x0 x1
  obtain ⟨s, hs2, rfl⟩ := map_get h2
  obtain ⟨j, rfl⟩ : ∃ j : Nat, x = (j : Int) := ⟨x.toNat, by omega⟩
  have hj : j < ss.length := by omega
  have hs2 : ss[j]? = some s := hs2
  have wf := hsg s (List.mem_of_getElem? hs2)
  conv => whnf
  rw [h1, St.d_l]
  intro I hI
  have neI : I ≠ p := by
    intro z
    rw [z] at hI
    have hI : updM μ1 F (.lst (ss.map St.d)) p = none := hI
    rw [updM_ne neF.symm] at hI
    obtain ⟨_, _, _, e, _⟩ := hs1
    rw [e] at hI; cases hI
  have nFI : F ≠ I := by
    intro z
    rw [← z] at hI
    have hI : updM μ1 F (.lst (ss.map St.d)) F = none := hI
    rw [updM_same] at hI; cases hI
  have hI1 : μ1 I = none := by
    have hI : updM μ1 F (.lst (ss.map St.d)) I = none := hI
    rwa [updM_ne nFI.symm] at hI
  have hs2' : Src p (updM (updM μ1 F (.lst (ss.map St.d))) I (.lst s.l)) (n + 1) := (hs1.upn neF).upn neI
  have k2 : Ge p μ (updM (updM μ1 F (.lst (ss.map St.d))) I (.lst s.l)) := (k1.trans (Ge.new hF)).trans (Ge.new hI)
  have hFm : updM (updM μ1 F (.lst (ss.map St.d))) I (.lst s.l) F = some (.lst (ss.map St.d)) := by rw [updM_ne nFI, updM_same]
  have hIm : updM (updM μ1 F (.lst (ss.map St.d))) I (.lst s.l) I = some (.lst s.l) := updM_same _ _ _
  generalize updM (updM μ1 F (.lst (ss.map St.d))) I (.lst s.l) = μ2 at hs2' k2 hFm hIm ⊢
  have sl := l_len s
  conv => whnf
  rw [lstA hIm]
  refine ⟨p, ((s.l.length : Nat) : Int) - 1, n + 1, rfl, hs2', by omega, by omega, by omega, fun y μ3 y0 y1 hs3 k3 => ?_⟩
  refine ⟨p, 4, n + 1 + 1, rfl, hs3, by omega, by decide, by decide, fun w μ4 w0 w1 hs4 k4 => ?_⟩
  have k24 := (k2.trans k3).trans k4
  have hF4 := k4 F _ neF (k3 F _ neF hFm)
  have hI4 := k4 I _ neI (k3 I _ neI hIm)
  have hFn : μ F = none := by
    cases hh : μ F with
    | none => rfl
    | some m' =>
      have := k1 F m' neF hh
      rw [hF] at this; cases this
  have hm : ∀ (ss' : List St) μ' (n' : Int), n' ≤ n + 20 → (∀ s ∈ ss', SW m s) → ss'.length = ss.length → Src p μ' n' → Ge p μ μ' → q (.lst (ss'.map St.d)) μ' := fun ss' μ' n' hn' a b c d => h ss' μ' a b (c.le hn') d
  obtain ⟨s0, hs0⟩ : ∃ s0, ss[0]? = some s0 := ⟨_, List.getElem?_eq_getElem ne⟩
  have e0 : atI (ss.map St.d) 0 = some s0.d := atI_lt (k := 0) (by rw [List.getElem?_map, hs0]; rfl)
  refine iteD (fun z1 => ?_) (fun z1 => ?_)
  · refine ⟨_, _, hF4, e0, _, _, hF4, h1, sz 2 rfl (by decide), rfl, _, j, hF4, ixN_nat (by rw [lm]; exact hj), _, 0, updM_same _ _ _, ixN_nat (by rw [List.length_set, lm]; exact ne), ?_⟩
    rw [updM_updM]
    have e : ((ss.map St.d).set j s0.d).set 0 s.d = ((ss.set j s0).set 0 s).map St.d := by rw [List.map_set, List.map_set]
    rw [e]
    show (match updM μ4 F (.lst (((ss.set j s0).set 0 s).map St.d)) F with | some (.lst l) => _ | _ => False)
    rw [updM_same]
    refine ⟨_, Sub.refl _, hm ((ss.set j s0).set 0 s) _ (n + 1 + 1 + 1) (by omega) ?_ (by rw [List.length_set, List.length_set]) ((hs4.upn neF).del neF) ((k24.set hFn).del hFn)⟩
    intro t ht
    rcases List.mem_or_eq_of_mem_set ht with z | rfl
    · rcases List.mem_or_eq_of_mem_set z with z | rfl
      · exact hsg t z
      · exact hsg _ (List.mem_of_getElem? hs0)
    · exact wf
  obtain ⟨i, hi⟩ : ∃ i : Nat, 1 + y = (i : Int) := ⟨(1 + y).toNat, by omega⟩
  have i1 : 1 ≤ i := by omega
  have i2 : i < s.l.length := by omega
  have ei : ∀ v, s.l[i]? = some v → atI s.l (1 + y) = some v := fun v hv => by rw [hi]; exact atI_lt hv
  have xi : ixN s.l.length (1 + y) = some i := by rw [hi]; exact ixN_nat i2
  rcases bent_cases wf i1 i2 with ⟨rfl, g, hg, s', es, hw⟩ | ⟨ni, z, hz, hw⟩ | ⟨ni, x, hx, hw⟩
  · refine iteDT (show 1 + y = 1 by omega) ?_
    have e1 : atI s.l 1 = some g.D := atI_lt (k := 1) hg
    refine ⟨_, _, hI4, e1, _, _, hI4, e1, _, _, hI4, e1, _, _, hI4, e1, sz 4 rfl (by decide), _, 1, hI4, ixN_nat i2, ?_⟩
    have es' : s.l.set 1 (.tup [.int g.a, .int g.b, .int (g.c + 1), .int g.d]) = s'.l := es
    rw [es']
    refine bent_tail (A := A) hj ((updM_ne nFI).trans hF4) (updM_same _ _ _) hsg hw neF hFn (hs4.upn neI) (k24.set ?_) (fun ss' μ' a b c d => hm ss' μ' _ (by omega) a b c d)
    cases hh : μ I with
    | none => rfl
    | some m' =>
      have := k1 I m' neI hh
      rw [hI1] at this; cases this
  · refine iteDF (show ¬ 1 + y = 1 by omega) ?_
    refine ⟨_, _, hI4, ei _ hz, rfl, true, rfl, ?_⟩
    refine ⟨p, _, rfl, hs4, by omega, fun z' μ5 hz' hs5 k5 => ?_⟩
    obtain ⟨s', es, hw⟩ := hw z' hz'
    have hI5 := k5 I _ neI hI4
    refine ⟨_, i, hI5, xi, ?_⟩
    rw [es]
    refine bent_tail (A := A) hj ((updM_ne nFI).trans (k5 F _ neF hF4)) (updM_same _ _ _) hsg hw neF hFn (hs5.upn neI) ((k24.trans k5).set ?_) (fun ss' μ' a b c d => hm ss' μ' _ (by omega) a b c d)
    cases hh : μ I with
    | none => rfl
    | some m' =>
      have := k1 I m' neI hh
      rw [hI1] at this; cases this
  · refine iteDF (show ¬ 1 + y = 1 by omega) ?_
    refine ⟨_, _, hI4, ei _ hx, rfl, false, rfl, ?_⟩
    refine ⟨_, _, hI4, ei _ hx, ?_⟩
    obtain ⟨s', es, hw⟩ := hw (x + 1)
    refine ⟨_, i, hI4, xi, ?_⟩
    rw [es]
    refine bent_tail (A := A) hj ((updM_ne nFI).trans hF4) (updM_same _ _ _) hsg hw neF hFn (hs4.upn neI) (k24.set ?_) (fun ss' μ' a b c d => hm ss' μ' _ (by omega) a b c d)
    cases hh : μ I with
    | none => rfl
    | some m' =>
      have := k1 I m' neI hh
      rw [hI1] at this; cases this
end Law

set_option linter.all false
set_option maxRecDepth 100000
set_option maxHeartbeats 2000000
/-! drawn programs -/
namespace Law
open PySem L2 DL Ar
theorem SG.mono {m m' : Int} {s : St} (h : SG m s) (k : m ≤ m') : SG m' s := ⟨⟨h.nm, h.ok, Int.le_trans h.le k⟩, h.sl⟩
theorem x_ok : nmOk "x" = true := by decide +kernel
def nl20 (s : St) : Prop := ∀ x ∈ s.nl, x.natAbs ≤ 20
def c__law_drawn (A : Cls) : DSp := fun ds μ q e => ∃ p m n, ds = [.adr p, .int m] ∧ Src p μ n ∧ n < 2 ^ 57 ∧ 1 ≤ m ∧ m < 2 ^ 100 ∧ ∀ (ss : List St) (bs : List Int) (μ' : Mu), (∀ s ∈ ss, SG m s) → ss.length ≤ 12 → brOk (ss.length : Nat) 0 bs → bs.length ≤ 100 → Src p μ' (n + 1000) → Ge p μ μ' → q (.lst [.lst (ss.map St.d), .lst (bs.map D.int)]) μ'
theorem len__law_drawn {A : Cls} : ∀ ds μ q e, c__law_drawn A ds μ q e → ds.length = 2 := fun ds μ q e ⟨_, _, _, h, _⟩ => by rw [h]; rfl
theorem drawn_tail {A : Cls} {p : Addr} {m n0 n : Int} {ss : List St} {μ μ1 : Mu} {q : DK} {e : DX} {x1 x3 x5 x6 : Option D} (hs : Src p μ1 n) (k : Ge p μ μ1) (hn : n < 2 ^ 58) (hnn : n + 100 ≤ n0 + 1000) (hss : ∀ s ∈ ss, SG m s) (hl : ss.length ≤ 12)
    (h : ∀ (ss : List St) (bs : List Int) (μ' : Mu), (∀ s ∈ ss, SG m s) → ss.length ≤ 12 → brOk (ss.length : Nat) 0 bs → bs.length ≤ 100 → Src p μ' (n0 + 1000) → Ge p μ μ' → q (.lst [.lst (ss.map St.d), .lst (bs.map D.int)]) μ') :
    dRet (dLst (dCons (dVar 4) (dCons (dCall (c__law_places A) e [] (dCons (dVar 0) (dCons (dVar 2) dNil))) dNil))) (endsD q) [some (.adr p), x1, some (.int (ss.length : Nat)), x3, some (.lst (ss.map St.d)), x5, x6] μ1 := by
  refine ⟨p, (ss.length : Nat), n, rfl, hs, by omega, by omega, by omega, .inl fun bs μ' hb hbl hs' k' => ?_⟩
  exact ⟨sz 2 rfl (by decide), fin (h ss bs μ' hss hl hb hbl (hs'.le (by omega)) (k.trans k')) rfl⟩
theorem ok__law_drawn {A : Cls} : ∀ ds μ q e, c__law_drawn A ds μ q e → rd__law_drawn A (c__law_draw A) (c__law_far_statement A) (c__law_name A) (c__law_places A) (c__law_statement A) e (endsD q) (startD 7 ds) μ := by
  rintro ds μ q e0 ⟨p, m, n, rfl, hs, hn, m0, m1, h⟩
  refine ⟨p, 6, n, rfl, hs, by omega, by decide, by decide, fun v1 μ1 a0 a1 hs1 k1 => ?_⟩
  refine ⟨p, 13, n + 1, rfl, hs1, by omega, by decide, by decide, fun v2 μ2 b0 b1 hs2 k2 => ?_⟩
  refine ⟨sz 2 rfl (by decide), ?_⟩
  refine ⟨p, 2, n + 1 + 1, rfl, hs2, by omega, by decide, by decide, fun v3 μ3 c0 c1 hs3 k3 => ?_⟩
  refine pickL [v1, v2] (fun v => 0 ≤ v ∧ v ≤ 12) μ3 c0 c1 ?_ fun u hu => ?_
  · intro v hv
    simp only [List.mem_cons, List.not_mem_nil, or_false] at hv
    omega
  refine ⟨p, n + 1 + 1 + 1, rfl, hs3, by omega, fun z1 μ4 hz1 hs4 k4 => ?_⟩
  refine ⟨p, n + 1 + 1 + 1 + 10, rfl, hs4, by omega, fun z2 μ5 hz2 hs5 k5 => ?_⟩
  refine ⟨sz 3 rfl (by decide), ?_⟩
  dsimp only [dgName]
  have kk := (((k1.trans k2).trans k3).trans k4).trans k5
  have hmm : ∃ mm : Int, mm = (if (30 : Int) < m then 30 else m) ∧ 1 ≤ mm ∧ mm ≤ m ∧ mm ≤ 30 := ⟨_, rfl, by split <;> omega, by split <;> omega, by split <;> omega⟩
  obtain ⟨mm, emm, g0, g1, g2⟩ := hmm
  refine ⟨fun i l μ' => ∃ ss : List St, l = ss.map St.d ∧ ss.length = i ∧ (∀ s ∈ ss, SG m s ∧ nl20 s) ∧ Src p μ' (n + 30 + 20 * (i : Nat)) ∧ Ge p μ5 μ', ⟨[], rfl, rfl, (fun _ h => nomatch h), hs5.le (by omega), Ge.refl⟩, fun i l μ' hi hP => ⟨trivial, ?_⟩, ?_, ?_⟩
  · obtain ⟨ss, rfl, e2, _⟩ := hP
    rw [ints_len] at hi
    rw [List.length_map, sizeLine_eq]; omega
  · rintro i d l μ' hi ⟨ss, rfl, e2, al, hs', k'⟩
    obtain ⟨hlt, rfl⟩ := ints_get hi
    refine ⟨p, mm, n + 30 + 20 * (i : Nat), ["x", z1, z2], by rw [emm]; rfl, rfl, ?_, hs', by omega, by omega, by omega, fun s μ6 hg hnl hs6 k6 => ?_⟩
    · intro z hz
      simp only [List.mem_cons, List.not_mem_nil, or_false] at hz
      rcases hz with rfl | rfl | rfl
      · exact x_ok
      · exact hz1
      · exact hz2
    · refine ⟨ss ++ [s], by rw [List.map_append]; rfl, by rw [List.length_append]; show ss.length + 1 = _; omega, fun t ht => ?_, hs6.le (by omega), k'.trans k6⟩
      rcases List.mem_append.mp ht with w | w
      · exact al t w
      · rw [List.mem_singleton.mp w]; exact ⟨hg.mono g1, hnl⟩
  rintro l μ6 ⟨ss, rfl, hsl, al, hs6, k6⟩
  rw [ints_len] at hsl hs6
  have hu2 : u = ((ss.length : Nat) : Int) := by omega
  subst hu2
  have hs6 : Src p μ6 (n + 270) := hs6.le (by omega)
  dsimp only [dgName]
  refine ⟨p, 3, _, rfl, hs6, by omega, by decide, by decide, fun v7 μ7 d0 d1 hs7 k7 => ?_⟩
  have k67 := (kk.trans k6).trans k7
  refine iteD (fun z => ?_) (fun z => ?_)
  · refine ⟨fun i l μ' => μ' = μ7 ∧ l = ((ss.take i).map St.far).map St.d, ⟨rfl, rfl⟩, fun i l μ' hi hP => ⟨trivial, ?_⟩, ?_, ?_⟩
    · rw [hP.2, List.length_map, List.length_map, sizeLine_eq]
      have := List.length_take_le' i ss
      omega
    · rintro i d l μ' hi ⟨rfl, rfl⟩
      obtain ⟨s, hs', rfl⟩ := map_get hi
      refine ⟨_, s, rfl, (al s (List.mem_of_getElem? hs')).2, rfl, ?_⟩
      rw [List.take_add_one, hs', List.map_append, List.map_append]; rfl
    · rintro l μ' ⟨rfl, rfl⟩
      rw [List.length_map, List.take_length]
      dsimp only [dgName]
      have e : (ss.length : Nat) = (ss.map St.far).length := (List.length_map ..).symm
      have := drawn_tail (A := A) (p := p) (m := m) (n0 := n) (n := n + 270 + 1) (ss := ss.map St.far) (μ := μ) (μ1 := μ') (q := q) (e := e0) (x1 := some (.int m)) (x3 := some (.lst [.str "x", .str z1, .str z2])) (x5 := none) (x6 := none) hs7 k67 (by omega) (by omega) (fun s hs' => by
        obtain ⟨t, ht, rfl⟩ := List.mem_map.mp hs'
        exact far_sg (al t ht).1 (al t ht).2) (by rw [← e]; omega) h
      rw [← e] at this
      exact this
  · exact drawn_tail (A := A) (e := e0) hs7 k67 (by omega) (by omega) (fun s hs' => (al s hs').1) (by omega) h
end Law

set_option linter.all false
set_option maxRecDepth 100000
set_option maxHeartbeats 2000000
/-! accesses, phases; sums -/
namespace Law
open PySem L2 DL Ar
/-- a kernel as the law makes it -/
structure KG (N : Int) (ss : List St) (bs : List Int) : Prop where
  N1 : 1 ≤ N
  N2 : N < 2 ^ 100
  sg : ∀ s ∈ ss, SG N s
  sl : ss.length ≤ 12
  br : brOk (ss.length : Nat) 0 bs
  bl : bs.length ≤ 100
theorem KG.kOk {N : Int} {ss : List St} {bs : List Int} (h : KG N ss bs) : kOk N ss bs :=
  ⟨h.N1, fun s hs => ⟨(h.sg s hs).isOk, (h.sg s hs).short⟩, by have := h.sl; omega, by have := h.bl; omega, h.br⟩
theorem KG.sts {N : Int} {ss : List St} {bs : List Int} (h : KG N ss bs) : okBs 30100 (ss.map St.d) := by
  refine (okBs_all (w := 2500) fun d hd => ?_).le ?_
  · obtain ⟨s, hs, rfl⟩ := List.mem_map.mp hd
    exact (h.sg s hs).txt
  · rw [List.length_map]; have := h.sl; omega
theorem brs_txt {m : Int} {bs : List Int} (h : ∀ b ∈ bs, b.natAbs < 10 ^ 40) (hl : bs.length ≤ 250) : okBs 36000 (bs.map D.int) := by
  refine (okBs_all (w := 140) fun d hd => ?_).le ?_
  · obtain ⟨b, hb, rfl⟩ := List.mem_map.mp hd
    exact okB_int (h b hb)
  · rw [List.length_map]; omega
theorem br_mem {m : Int} : ∀ {bs : List Int} {bf : Int}, brOk m bf bs → ∀ b ∈ bs, bf < b ∧ b < m
  | [], _, _, _, h => nomatch h
  | x :: r, bf, ⟨h1, h2, h3⟩, b, hb => by
    rcases List.mem_cons.mp hb with rfl | hb
    · exact ⟨h1, h2⟩
    · have := br_mem h3 b hb; omega
theorem KG.brs {N : Int} {ss : List St} {bs : List Int} (h : KG N ss bs) : okBs 36000 (bs.map D.int) := brs_txt (m := 0) (fun b hb => by have := br_mem h.br b hb; have := h.sl; omega) (by have := h.bl; omega)
theorem KG.pl {N : Int} {ss : List St} {bs : List Int} (h : KG N ss bs) : plainDs 60 (ss.map St.d) = true := sts_plain fun s hs => (h.sg s hs).toSW
theorem KG.pl63 {N : Int} {ss : List St} {bs : List Int} (h : KG N ss bs) : plainDs 63 (ss.map St.d) = true := sts63 fun s hs => (h.sg s hs).toSW
theorem eqL_refl {k : Nat} {l : List D} (h : plainDs k l = true) : eqD (.lst l) (.lst l) = true := eqD_refl (k := k + 1) (d := .lst l) h
/-- a comprehension over places, of whole numbers -/
def phs (bs : List Int) (n : Nat) : List D := (List.range n).map fun i => .int (cu bs (i : Nat))
theorem phs_succ {bs : List Int} {n : Nat} : phs bs (n + 1) = phs bs n ++ [.int (cu bs (n : Nat))] := by
  unfold phs
  rw [List.range_succ, List.map_append]; rfl
theorem phs_plain {bs : List Int} {n k : Nat} : plainDs k (phs bs n) = true := plainDs_iff.mpr fun d hd => by
  obtain ⟨i, _, rfl⟩ := List.mem_map.mp hd
  cases k <;> rfl
theorem phs_len {bs : List Int} {n : Nat} : (phs bs n).length = n := by unfold phs; rw [List.length_map, List.length_range]
theorem z_int (i : Nat) : (0 : Int) + (i : Nat) = (i : Nat) := by omega
def c__law_accesses_right (A : Cls) : DSp := fun ds μ q e => ∃ N ss bs, ds = [kD A N ss bs, .lst (ss.map St.d), .lst (bs.map D.int)] ∧ KG N ss bs ∧ (∀ μ', Sub μ μ' → q (.bl true) μ')
theorem len__law_accesses_right {A : Cls} : ∀ ds μ q e, c__law_accesses_right A ds μ q e → ds.length = 3 := fun ds μ q e ⟨_, _, _, h, _⟩ => by rw [h]; rfl
theorem ok__law_accesses_right {A : Cls} : ∀ ds μ q e, c__law_accesses_right A ds μ q e → rd__law_accesses_right A (c__law_parts A) (c__law_phase A) (c__law_same A) (c_accesses A) (c_phase_of A) e (endsD q) (startD 8 ds) μ := by
  rintro ds μ q e ⟨N, ss, bs, rfl, hk, h⟩
  have hsl := hk.sl; have hbl := hk.bl
  refine ⟨ss, rfl, by omega, ?_⟩
  refine ⟨fun i l μ' => μ' = μ ∧ l = ((pcs 0 ss).take i).map five, ⟨rfl, rfl⟩, fun i l μ' hi hP => ⟨trivial, ?_⟩, ?_, ?_⟩
  · rw [hP.2, List.length_map, sizeLine_eq]
    have := List.length_take_le' i (pcs 0 ss)
    have := pcs_len (ss := ss) (k := 0)
    omega
  · rintro i d l μ' hi ⟨rfl, rfl⟩
    obtain ⟨l2, rfl, hl2⟩ := pcs_tup d (List.mem_of_getElem? hi)
    have nc : ¬ (HT.sIx l2.length 0 none = 0 ∧ HT.sIx l2.length l2.length (some 5) = l2.length) := by rw [hl2]; decide
    show (if HT.sIx l2.length 0 none = 0 ∧ HT.sIx l2.length l2.length (some 5) = l2.length then False else _)
    rw [if_neg nc]
    refine ⟨rfl, ?_⟩
    rw [List.take_add_one, hi, List.map_append]; rfl
  rintro l μ' ⟨rfl, rfl⟩
  rw [List.take_length, pcs_five]
  dsimp only [dgName]
  have hacs : okBs 30000 (acs 0 ss) := by
    refine (okBs_all (w := 800) fun d hd => acs_txt hk.sg (by omega) d hd).le ?_
    have := acs_len (ss := ss) (k := 0)
    omega
  have pacs : plainDs 61 (acs 0 ss) = true := acs_plain hk.sg
  refine ⟨N, ss, bs, rfl, by omega, .inl ?_⟩
  refine ⟨rfl, rfl, N, ss, bs, rfl, by omega, .inl ?_⟩
  refine ⟨sz 2 rfl (by decide), sz 2 rfl (by decide), _, rfl, ?_, ?_, ?_⟩
  · have p1 : plainDs 62 (acs 0 ss) = true := plainDs_up pacs
    show plainDs 63 [.lst (acs 0 ss), .lst (acs 0 ss)] = true
    simp only [plainDs, plainD, p1, Bool.and_self, Bool.and_true]
  · exact shownOk_B (okB_lst (okBs_cons (okB_lst hacs) (okBs_cons (okB_lst hacs) okBs_nil))) (by decide)
  have lm : ((ss.map St.d).length : Nat) = ss.length := List.length_map ..
  refine ⟨fun i l μ2 => μ2 = μ' ∧ l = phs bs i, ⟨rfl, rfl⟩, fun i l μ' hi hP => ⟨trivial, ?_⟩, ?_, ?_⟩
  · rw [ints_len] at hi
    rw [hP.2, phs_len, sizeLine_eq]; omega
  · rintro i d l μ2 hi ⟨rfl, rfl⟩
    obtain ⟨hlt, rfl⟩ := ints_get hi
    refine ⟨bs, _, rfl, by omega, rfl, ?_⟩
    rw [phs_succ, z_int]
  rintro l μ2 ⟨rfl, rfl⟩
  rw [ints_len, show (((ss.map St.d).length : Nat) : Int).toNat = ss.length by omega]
  dsimp only [dgName]
  refine ⟨fun i l μ3 => μ3 = μ2 ∧ l = phs bs i, ⟨rfl, rfl⟩, fun i l μ' hi hP => ⟨trivial, ?_⟩, ?_, ?_⟩
  · rw [ints_len] at hi
    rw [hP.2, phs_len, sizeLine_eq]; omega
  · rintro i d l μ3 hi ⟨rfl, rfl⟩
    obtain ⟨hlt, rfl⟩ := ints_get hi
    refine ⟨N, ss, bs, _, rfl, by omega, by omega, by omega, by omega, rfl, ?_⟩
    rw [phs_succ, z_int]
  rintro l μ3 ⟨rfl, rfl⟩
  rw [ints_len, show (((ss.map St.d).length : Nat) : Int).toNat = ss.length by omega]
  refine ⟨phs_plain, phs_plain, ?_⟩
  refine iteF (by show (!eqD (.lst (phs bs ss.length)) (.lst (phs bs ss.length))) = false; rw [eqL_refl (k := 63) phs_plain]; rfl) ?_
  have tail : ∀ μ : Mu, μ = μ3 → dSeq (dAsg (dCall (c_accesses A) e [] (dCons (dVar 0) dNil)) (dgName 5)) (dSeq (dDrop (dAppend (dVar 5) (dC (.int 0)))) (dRet (dOp rEqG (dCall (c_accesses A) e [] (dCons (dVar 0) dNil)) (dVar 3)))) (endsD q)
      [some (kD A N ss bs), some (.lst (ss.map St.d)), some (.lst (bs.map D.int)), some (.lst (acs 0 ss)), some (.lst (phs bs ss.length)), none, none, none] μ := by
    rintro μ rfl
    refine ⟨N, ss, bs, rfl, by omega, .inr fun p hp => ?_⟩
    refine ⟨⟨_, updM_same _ _ _⟩, _, updM_same _ _ _, ?_, ?_⟩
    · have := acs_len (ss := ss) (k := 0)
      rw [sizeLine_eq]; omega
    refine ⟨N, ss, bs, rfl, by omega, .inl ?_⟩
    refine ⟨plainDs_up (plainDs_up pacs), plainDs_up (plainDs_up pacs), ?_⟩
    have e1 : eqD (nrm (updM (updM μ p (.lst (acs 0 ss))) p (.lst (acs 0 ss ++ [.int 0]))) (.lst (acs 0 ss))) (nrm (updM (updM μ p (.lst (acs 0 ss))) p (.lst (acs 0 ss ++ [.int 0]))) (.lst (acs 0 ss))) = true := eqL_refl pacs
    rw [e1]
    exact fin (h _ (((Sub.refl μ).new hp).new hp)) rfl
  by_cases z : ss = []
  · subst z
    refine ⟨sz 0 rfl (by decide), rfl, rfl, ?_⟩
    exact tail _ rfl
  · have ne : ss.length ≠ 0 := fun w => z (List.eq_nil_of_length_eq_zero w)
    refine ⟨sz 0 rfl (by decide), hk.pl63, rfl, ?_⟩
    refine iteT (by show (!eqD (.lst (ss.map St.d)) (.lst [])) = true; rw [eqD_nil]; cases ss with
      | nil => exact absurd rfl z
      | cons a r => rfl) ?_
    refine ⟨rfl, rfl, N, ss, bs, _, rfl, by omega, by omega, ?_, ?_, ?_⟩
    · show (0 : Int) ≤ ((ss.map St.d).length : Nat) - 1
      omega
    · show (((ss.map St.d).length : Nat) : Int) - 1 < _
      omega
    have e1 : atI (phs bs ss.length) (-1) = some (.int (cu bs (((ss.map St.d).length : Nat) - 1))) := by
      refine atI_end ?_
      obtain ⟨m, hm⟩ : ∃ m, ss.length = m + 1 := ⟨ss.length - 1, by omega⟩
      rw [hm, phs_succ, List.getLast?_append, show (((ss.map St.d).length : Nat) : Int) - 1 = (m : Nat) by omega]
      rfl
    conv => whnf
    rw [e1]
    refine iteF (by show (!decide (cu bs (((ss.map St.d).length : Nat) - 1) = cu bs (((ss.map St.d).length : Nat) - 1))) = false; rw [decide_eq_true rfl]; rfl) ?_
    exact tail _ rfl
/-! sums -/
theorem brOk_some {m k M : Int} (hM : ∀ x, x < m → x < k → x < M) : ∀ {bs : List Int} {bf : Int}, brOk m bf bs → brOk M bf (bs.filter fun b => decide (b < k))
  | [], _, _ => trivial
  | b :: r, bf, ⟨h1, h2, h3⟩ => by
    by_cases z : b < k
    · rw [List.filter_cons_of_pos (by simp [z])]
      exact ⟨h1, hM b h2 z, brOk_some hM h3⟩
    · rw [List.filter_cons_of_neg (by simp [z])]
      exact brOk_bf (by omega) (brOk_some hM h3)
/-- those below a bound -/
def blw (bs : List Int) (k : Int) : List Int := bs.filter fun b => decide (b < k)
theorem blw_succ {bs : List Int} {k : Int} {j : Nat} {b : Int} (h : bs[j]? = some b) : blw (bs.take (j + 1)) k = blw (bs.take j) k ++ if b < k then [b] else [] := by
  unfold blw
  rw [List.take_add_one, h, Option.toList_some, List.filter_append]
  congr 1
  by_cases z : b < k <;> simp [List.filter, z]
theorem blw_len {bs : List Int} {k : Int} {j : Nat} : (blw (bs.take j) k).length ≤ bs.length := by
  have := List.length_filter_le (fun b : Int => decide (b < k)) (bs.take j)
  have := List.length_take_le' j bs
  unfold blw; omega
theorem blw_len' {bs : List Int} {k : Int} : (blw bs k).length ≤ bs.length := List.length_filter_le _ _
def c__law_sum_right (A : Cls) : DSp := fun ds μ q e => ∃ N ss bs ts cs, ds = [.int N, .lst [.lst (ss.map St.d), .lst (bs.map D.int)], .lst [.lst (ts.map St.d), .lst (cs.map D.int)]] ∧ KG N ss bs ∧ KG N ts cs ∧ (∀ μ', Sub μ μ' → q (.bl true) μ')
theorem len__law_sum_right {A : Cls} : ∀ ds μ q e, c__law_sum_right A ds μ q e → ds.length = 3 := fun ds μ q e ⟨_, _, _, _, _, h, _⟩ => by rw [h]; rfl
theorem cut_to {l : List D} {n : Nat} : cutD l none (some (n : Int)) = l.take n := by
  unfold cutD
  have e1 : HT.sIx l.length 0 none = 0 := rfl
  have e2 : HT.sIx l.length l.length (some (n : Int)) = min n l.length := by rw [HT.sIx_nat]
  rw [e1, e2, List.drop_zero, Nat.sub_zero]
  by_cases z : n ≤ l.length
  · rw [Nat.min_eq_left z]
  · rw [Nat.min_eq_right (by omega), List.take_length, List.take_of_length_le (by omega)]
theorem add_sum {N : Int} {ss ts : List St} {bs cs : List Int} (h1 : KG N ss bs) (h2 : KG N ts cs) : okBs 70000 ((ss ++ ts).map St.d) ∧ okBs 36000 ((bj ss.length bs ts.length cs).map D.int) ∧ plainDs 61 ((ss ++ ts).map St.d) = true := by
  have sl := h1.sl; have bl := h1.bl; have cl := h2.bl; have tl := h2.sl
  refine ⟨?_, ?_, ?_⟩
  · refine (okBs_all (w := 2500) fun d hd => ?_).le ?_
    · obtain ⟨s, hs, rfl⟩ := List.mem_map.mp hd
      rcases List.mem_append.mp hs with z | z
      · exact (h1.sg s z).txt
      · exact (h2.sg s z).txt
    · rw [List.length_map, List.length_append]; omega
  · refine brs_txt (m := 0) (fun b hb => ?_) ?_
    · have hh := bj_ok h1.br h2.br
      have := br_mem hh b hb
      omega
    · have := bj_len (n := ss.length) (bs := bs) (m := ts.length) (cs := cs)
      omega
  · refine plainDs_up (sts_plain (m := N) fun s hs => ?_)
    rcases List.mem_append.mp hs with z | z
    · exact (h1.sg s z).toSW
    · exact (h2.sg s z).toSW
theorem keq_refl {N : Int} {ss : List St} {bs : List Int} (hp : plainDs 63 (ss.map St.d) = true) : (decide (N = N) && (eqD (.lst (ss.map St.d)) (.lst (ss.map St.d)) && eqD (.lst (bs.map D.int)) (.lst (bs.map D.int)))) = true := by
  rw [decide_eq_true rfl, eqL_refl hp, eqL_refl (k := 63) (plain_ints 63 bs)]
  rfl
theorem szA {k : Nat} (h : k ≤ 5000) : k ≤ sizeLine := by rw [sizeLine_eq]; omega
theorem ok__law_sum_right {A : Cls} : ∀ ds μ q e, c__law_sum_right A ds μ q e → rd__law_sum_right A (c_Kernel___add__ A) (c_Kernel___eq__ A) (c_Kernel___init__ A) (c_Kernel_barriers A) (c_Kernel_lanes A) (c_Kernel_statements A) (c__law_same A) e (endsD q) (startD 10 ds) μ := by
  rintro ds μ q e ⟨N, ss, bs, ts, cs, rfl, h1, h2, h⟩
  have sl := h1.sl; have bl := h1.bl; have cl := h2.bl; have tl := h2.sl
  have lm : ((ss.map St.d).length : Nat) = ss.length := List.length_map ..
  refine ⟨fun j l μ' => μ = μ' ∧ l = (blw (cs.take j) (12 - ((ss.map St.d).length : Nat))).map D.int, ⟨rfl, rfl⟩, fun j l μ' hj hP => ⟨trivial, ?_⟩, ?_, ?_⟩
  · have := blw_len (bs := cs) (k := 12 - ((ss.map St.d).length : Nat)) (j := j)
    rw [hP.2, List.length_map, sizeLine_eq]; omega
  · rintro j d l μ' hj ⟨rfl, rfl⟩
    obtain ⟨b, hb', rfl⟩ := map_get hj
    have e1 := blw_succ (k := 12 - ((ss.map St.d).length : Nat)) hb'
    refine iteD (fun z => ?_) (fun z => ?_)
    · refine ⟨rfl, ?_⟩
      rw [e1, if_pos z, List.map_append]; rfl
    · refine ⟨rfl, ?_⟩
      rw [e1, if_neg z, List.append_nil]
  rintro l μ' ⟨rfl, rfl⟩
  have e2 : cs.take (cs.map D.int).length = cs := by rw [List.length_map, List.take_length]
  rw [e2]
  refine ⟨sz 2 rfl (by decide), ?_⟩
  have ek : (12 - (((ss.map St.d).length : Nat) : Int)) = ((12 - ss.length : Nat) : Int) := by omega
  have ect : cutD (ts.map St.d) none (some (12 - (((ss.map St.d).length : Nat) : Int))) = (ts.take (12 - ss.length)).map St.d := by rw [ek, cut_to, List.map_take]
  have tle : (ts.take (12 - ss.length)).length = min (12 - ss.length) ts.length := List.length_take ..
  have h3 : KG N (ts.take (12 - ss.length)) (blw cs (12 - ((ss.map St.d).length : Nat))) := by
    refine ⟨h1.N1, h1.N2, fun s hs => h2.sg s (List.mem_of_mem_take hs), by omega, ?_, by have := blw_len' (bs := cs) (k := 12 - ((ss.map St.d).length : Nat)); omega⟩
    refine brOk_some (m := (ts.length : Nat)) (fun x a b => ?_) h2.br
    omega
  have l12 : ss.length + (ts.take (12 - ss.length)).length ≤ 12 := by omega
  dsimp only [dgName]
  show dSeq _ _ (endsD q) [some (.int N), some (.lst [.lst (ss.map St.d), .lst (bs.map D.int)]), some (.lst [.lst (cutD (ts.map St.d) none (some (12 - ((ss.map St.d).length : Nat)))), .lst ((blw cs (12 - ((ss.map St.d).length : Nat))).map D.int)]), some (.int ((ss.map St.d).length : Nat)), none, none, none, none, none, none] μ
  rw [ect]
  generalize ts.take (12 - ss.length) = tt at h3 l12 ⊢
  generalize blw cs (12 - ((ss.map St.d).length : Nat)) = cc at h3 ⊢
  have tl3 := h3.sl; have cl3 := h3.bl
  have lt : ((tt.map St.d).length : Nat) = tt.length := List.length_map ..
  intro x hx
  refine mkZ (ss := ss) (bs := bs) hx rfl mL mL h1.kOk ⟨rfl, kns, _, updM_same _ _ _, ?_⟩
  rw [delM_updM _ hx]
  intro x hx
  refine mkZ (ss := tt) (bs := cc) hx rfl mL mL h3.kOk ⟨rfl, kns, _, updM_same _ _ _, ?_⟩
  rw [delM_updM _ hx]
  have tail : ∀ n : List Int, n = btw ss.length tt.length → dSeq (dAsg (dLst (dCons (dOp rAddD (dOp rIxG (dVar 1) (dC (.int 0))) (dOp rIxG (dVar 2) (dC (.int 0)))) (dCons (dOp rAddD (dOp rAddD (dOp rIxG (dVar 1) (dC (.int 1))) (dVar 6)) (dLc (diSq (dOp rIxG (dVar 2) (dC (.int 1)))) (dgName 9) dYes (dOp rAddD (dVar 3) (dVar 9)) [9])) dNil))) (dgName 7))
    (dSeq (dAsg (dAddOwn A.Kernel (c_Kernel___add__ A) e (dVar 4) (dVar 5)) (dgName 8))
    (dSeq (dIfS (dNot (dTru (dCall (c__law_same A) e [] (dCons (dLst (dCons (dProp A.Kernel (c_Kernel_lanes A) (dVar 8)) (dCons (dProp A.Kernel (c_Kernel_statements A) (dVar 8)) (dCons (dProp A.Kernel (c_Kernel_barriers A) (dVar 8)) dNil)))) (dCons (dLst (dCons (dVar 0) (dCons (dOp rIxG (dVar 7) (dC (.int 0))) (dCons (dOp rIxG (dVar 7) (dC (.int 1))) dNil)))) dNil))))) (dRet (dC (.bl false))) dNext)
    (dRet (dAndT (dOp (rEqAny A.Kernel (c_Kernel___eq__ A) id) (dVar 4) (dMakeZ A.Kernel (c_Kernel___init__ A) e [] (dCons (dVar 0) (dCons (dOp rIxG (dVar 1) (dC (.int 0))) (dCons (dOp rIxG (dVar 1) (dC (.int 1))) dNil))))) (dOp rEqG (dProp A.Kernel (c_Kernel_barriers A) (dVar 5)) (dOp rIxG (dVar 2) (dC (.int 1)))))))) (endsD q)
      [some (.int N), some (.lst [.lst (ss.map St.d), .lst (bs.map D.int)]), some (.lst [.lst (tt.map St.d), .lst (cc.map D.int)]), some (.int ((ss.map St.d).length : Nat)), some (kD A N ss bs), some (kD A N tt cc), some (.lst (n.map D.int)), none, none, none] μ := fun n hn => by
    have nl : n.length ≤ 1 := by rw [hn]; unfold btw; split <;> simp
    refine ⟨szA (by rw [List.length_map, List.length_map]; omega), szA (by rw [List.length_map, List.length_map]; omega), fun i l μ' => μ = μ' ∧ l = ((cc.take i).map ((ss.length : Int) + ·)).map D.int, ⟨rfl, rfl⟩, fun i l μ' hi hP => ⟨trivial, ?_⟩, ?_, ?_⟩
    · rw [hP.2, List.length_map, List.length_map]
      have := List.length_take_le' i cc
      rw [sizeLine_eq]; omega
    · rintro i d l μ' hi ⟨rfl, rfl⟩
      obtain ⟨c, hc, rfl⟩ := map_get hi
      refine ⟨rfl, ?_⟩
      rw [List.take_add_one, hc, List.map_append, List.map_append, ← lm]
      rfl
    rintro l μ' ⟨rfl, rfl⟩
    have e5 : cc.take (cc.map D.int).length = cc := by rw [List.length_map, List.take_length]
    rw [e5]
    have e3 : ss.map St.d ++ tt.map St.d = (ss ++ tt).map St.d := List.map_append.symm
    have e4 : bs.map D.int ++ n.map D.int ++ (cc.map ((ss.length : Int) + ·)).map D.int = (bj ss.length bs tt.length cc).map D.int := by
      rw [hn]; unfold bj; rw [List.map_append, List.map_append]
    refine ⟨szA (by simp only [List.length_map, List.length_append]; omega), sz 2 rfl (by decide), ?_⟩
    rw [e3, e4]
    refine ⟨rfl, rfl, N, ss, tt, bs, cc, rfl, h1.kOk, h3.kOk, by omega, by omega, ?_⟩
    obtain ⟨t1, t2, t3⟩ := add_sum h1 h3
    refine ⟨rfl, N, _, _, rfl, rfl, N, _, _, rfl, .inl ⟨rfl, N, _, _, rfl, .inl ?_⟩⟩
    refine ⟨sz 3 rfl (by decide), sz 3 rfl (by decide), _, rfl, ?_, ?_, ?_⟩
    · have t4 : plainDs 62 ((ss ++ tt).map St.d) = true := plainDs_up t3
      show plainDs 63 [.int N, .lst ((ss ++ tt).map St.d), .lst ((bj ss.length bs tt.length cc).map D.int)] = true
      simp only [plainDs, plainD, t4, plain_ints, Bool.and_self, Bool.and_true]
    · exact shownOk_B (okB_lst (okBs_cons (okB_int (by have := h1.N1; have := h1.N2; omega)) (okBs_cons (okB_lst t1) (okBs_cons (okB_lst t2) okBs_nil)))) (by decide)
    intro x hx
    refine mkZ (ss := ss) (bs := bs) hx rfl mL mL h1.kOk ⟨rfl, kns, _, updM_same _ _ _, ?_⟩
    rw [delM_updM _ hx]
    refine ⟨rfl, .inl ⟨_, _, rfl⟩, .inl ⟨N, ss, bs, N, ss, bs, rfl, h1.pl63, h1.pl63, _, rfl, ?_⟩⟩
    refine iteT (keq_refl h1.pl63) ?_
    refine ⟨rfl, N, _, _, rfl, .inl ⟨plain_ints 63 cc, plain_ints 63 cc, ?_⟩⟩
    exact fin (h μ (Sub.refl μ)) (congrArg D.bl (eqL_refl (k := 63) (plain_ints 63 cc)))
  refine iteD (fun z1 => ?_) (fun z1 => ?_)
  · have z1 : (((ss.map St.d).length : Nat) : Int) > 0 := z1
    refine ⟨sz 0 rfl (by decide), h3.pl63, rfl, ?_⟩
    refine iteB (fun z2 => ?_) (fun z2 => ?_)
    · have z2 : (!eqD (.lst (tt.map St.d)) (.lst [])) = true := z2
      rw [eqD_nil] at z2
      refine ⟨sz 1 rfl (by decide), ?_⟩
      refine tail [(((ss.map St.d).length : Nat) : Int)] ?_
      unfold btw
      rw [if_pos ⟨by omega, by cases tt with
        | nil => simp at z2
        | cons a r => simp⟩, lm]
    · have z2 : (!eqD (.lst (tt.map St.d)) (.lst [])) = false := z2
      rw [eqD_nil] at z2
      refine ⟨sz 0 rfl (by decide), tail [] ?_⟩
      unfold btw
      rw [if_neg]
      cases tt with
      | nil => simp
      | cons a r => simp at z2
  · have z1 : ¬ (((ss.map St.d).length : Nat) : Int) > 0 := z1
    refine ⟨sz 0 rfl (by decide), tail [] ?_⟩
    unfold btw
    rw [if_neg (by omega)]
end Law

set_option linter.all false
set_option maxRecDepth 100000
set_option maxHeartbeats 2000000
/-! kernels made -/
namespace Law
open PySem L2 DL Ar
structure Kq where
  N : Int
  ss : List St
  bs : List Int
def Kq.D (A : Cls) (k : Kq) : D := kD A k.N k.ss k.bs
def Kq.ok (k : Kq) : Prop := plainDs 63 (k.ss.map St.d) = true
def c__law_made_right (A : Cls) : DSp := fun ds μ q e => ∃ p n N ss bs, ds = [.adr p, .int N, .lst (ss.map St.d), .lst (bs.map D.int)] ∧ KG N ss bs ∧ Src p μ n ∧ n < 2 ^ 57 ∧ (∀ μ', Src p μ' (n + 100) → Ge p μ μ' → q (.bl true) μ')
theorem len__law_made_right {A : Cls} : ∀ ds μ q e, c__law_made_right A ds μ q e → ds.length = 4 := fun ds μ q e ⟨_, _, _, _, _, h, _⟩ => by rw [h]; rfl
theorem bool_eq (x : Bool) : eqD (.bl x) (.bl x) = true := by cases x <;> rfl
theorem bool_ne (x : Bool) : eqD (.bl (!x)) (.bl x) = false := by cases x <;> rfl
theorem keq_due {N M : Int} {ss ts : List St} {bs cs : List Int} : eqD (.lst [.int M, .lst (ts.map St.d), .lst (cs.map D.int)]) (.lst [.int N, .lst (ss.map St.d), .lst (bs.map D.int)]) = (decide (N = M) && (eqD (.lst (ss.map St.d)) (.lst (ts.map St.d)) && eqD (.lst (bs.map D.int)) (.lst (cs.map D.int)))) := by
  rw [eqD_lst, eqvAll_cons, eqvAll_cons, eqvAll_cons, eqD_int, eqD_comm (.lst (ts.map St.d)), eqD_comm (.lst (cs.map D.int))]
  have e : decide (M = N) = decide (N = M) := by rw [Bool.eq_iff_iff, decide_eq_true_eq, decide_eq_true_eq]; exact eq_comm
  rw [e]
  show (_ && (_ && (_ && true))) = _
  rw [Bool.and_true]
theorem three_plain {N : Int} {ss : List St} {bs : List Int} (h : plainDs 61 (ss.map St.d) = true) : plainD 64 (.lst [.int N, .lst (ss.map St.d), .lst (bs.map D.int)]) = true := by
  have t4 : plainDs 62 (ss.map St.d) = true := plainDs_up h
  show plainDs 63 [.int N, .lst (ss.map St.d), .lst (bs.map D.int)] = true
  simp only [plainDs, plainD, t4, plain_ints, Bool.and_self, Bool.and_true]
def Kq.pl (k : Kq) : Prop := plainDs 61 (k.ss.map St.d) = true
theorem made_loop {A : Cls} {R : Addr} {N : Int} {ss : List St} {bs : List Int} {ks : List Kq} {x0 x4 x5 x7 x8 : Option D} {μ : Mu} {q : DK} {e : DX} (hk : KG N ss bs) (hm : μ R = some (.lst (ks.map (Kq.D A)))) (al : ∀ k ∈ ks, k.pl) (h : q (.bl true) μ) :
    dSeq (dFor (diSq (dVar 9)) (dgName 10) (dSeq (dAsg (dOp rEqG (dLst (dCons (dProp A.Kernel (c_Kernel_lanes A) (dVar 10)) (dCons (dProp A.Kernel (c_Kernel_statements A) (dVar 10)) (dCons (dProp A.Kernel (c_Kernel_barriers A) (dVar 10)) dNil)))) (dLst (dCons (dVar 1) (dCons (dVar 2) (dCons (dVar 3) dNil))))) (dgName 11))
    (dIfS (dOr (dTest (dOp rNeG (dOp (rEqAny A.Kernel (c_Kernel___eq__ A) id) (dVar 6) (dVar 10)) (dVar 11))) (dTest (dOp rEqG (dOp (rEqAny A.Kernel (c_Kernel___eq__ A) not) (dVar 6) (dVar 10)) (dVar 11)))) (dRet (dC (.bl false))) dNext)))
    (dRet (dOp rEqG (dLc (diSq (dTup (dCons (dVar 2) (dCons (dC .non) (dCons (dVar 1) (dCons (dC (.str "x")) (dCons (dTup (dCons (dVar 1) (dCons (dVar 2) dNil))) dNil))))))) (dgName 14) (dOr (dTest (dOp (rEqAny A.Kernel (c_Kernel___eq__ A) id) (dVar 6) (dVar 14))) (dNot (dTest (dOp (rEqAny A.Kernel (c_Kernel___eq__ A) not) (dVar 6) (dVar 14))))) (dC (.int 1)) [14]) (dLst dNil))) (endsD q)
    [x0, some (.int N), some (.lst (ss.map St.d)), some (.lst (bs.map D.int)), x4, x5, some (kD A N ss bs), x7, x8, some (.adr R), none, none, none, none, none] μ := by
  have ps : plainDs 61 (ss.map St.d) = true := plainDs_up hk.pl
  refine ⟨ks.map (Kq.D A), hm, fun i δ μ' => μ' = μ ∧ ∃ x10 x11, δ = [x0, some (.int N), some (.lst (ss.map St.d)), some (.lst (bs.map D.int)), x4, x5, some (kD A N ss bs), x7, x8, some (.adr R), x10, x11, none, none, none], ⟨rfl, none, none, rfl⟩, fun i δ μ' _ hP => by rw [hP.1]; exact hm, ?_, ?_⟩
  · rintro i d δ μ' hi ⟨rfl, x10, x11, rfl⟩
    obtain ⟨k, hk', rfl⟩ := map_get hi
    have pk : plainDs 61 (k.ss.map St.d) = true := al k (List.mem_of_getElem? hk')
    refine ⟨rfl, k.N, k.ss, k.bs, rfl, rfl, k.N, k.ss, k.bs, rfl, .inl ⟨rfl, k.N, k.ss, k.bs, rfl, .inl ?_⟩⟩
    refine ⟨sz 3 rfl (by decide), sz 3 rfl (by decide), three_plain pk, three_plain ps, ?_⟩
    have e0 : eqD (nrm μ' (.lst [.int k.N, .lst (k.ss.map St.d), .lst (k.bs.map D.int)])) (nrm μ' (.lst [.int N, .lst (ss.map St.d), .lst (bs.map D.int)])) = (decide (N = k.N) && (eqD (.lst (ss.map St.d)) (.lst (k.ss.map St.d)) && eqD (.lst (bs.map D.int)) (.lst (k.bs.map D.int)))) := keq_due
    rw [e0]
    obtain ⟨b, hb⟩ : ∃ b, b = (decide (N = k.N) && (eqD (.lst (ss.map St.d)) (.lst (k.ss.map St.d)) && eqD (.lst (bs.map D.int)) (.lst (k.bs.map D.int)))) := ⟨_, rfl⟩
    refine ⟨rfl, .inl ⟨_, _, rfl⟩, .inl ⟨N, ss, bs, k.N, k.ss, k.bs, rfl, plainDs_up (plainDs_up ps), plainDs_up (plainDs_up pk), _, rfl, ?_⟩⟩
    rw [← hb]
    refine ⟨rfl, rfl, ?_⟩
    refine iteF (by show (!eqD (.bl b) (.bl b)) = false; rw [bool_eq]; rfl) ?_
    refine ⟨rfl, .inl ⟨_, _, rfl⟩, .inl ⟨N, ss, bs, k.N, k.ss, k.bs, rfl, plainDs_up (plainDs_up ps), plainDs_up (plainDs_up pk), _, rfl, ?_⟩⟩
    rw [← hb]
    refine ⟨rfl, rfl, ?_⟩
    refine iteF (bool_ne b) ?_
    exact ⟨rfl, _, _, rfl⟩
  · rintro δ μ' ⟨rfl, x10, x11, rfl⟩
    refine ⟨sz 2 rfl (by decide), sz 5 rfl (by decide), fun i l μ2 => μ2 = μ' ∧ l = [], ⟨rfl, rfl⟩, fun i l μ2 hi hP => ⟨trivial, by rw [hP.2, sizeLine_eq]; decide⟩, ?_, ?_⟩
    · rintro i d l μ2 hi ⟨rfl, rfl⟩
      have hd : notK d := by
        have := List.mem_of_getElem? hi
        simp only [List.mem_cons, List.not_mem_nil, or_false] at this
        rcases this with rfl | rfl | rfl | rfl | rfl <;> exact ⟨_, rfl⟩
      refine ⟨rfl, .inr hd, .inr ⟨_, d, rfl, hd, false, rfl, ?_⟩⟩
      refine ⟨rfl, .inr hd, .inr ⟨_, d, rfl, hd, false, rfl, ?_⟩⟩
      exact ⟨rfl, rfl⟩
    · rintro l μ2 ⟨rfl, rfl⟩
      exact ⟨sz 0 rfl (by decide), rfl, rfl, fin h rfl⟩
theorem cut_last {l : List D} (h : l ≠ []) : cutD l none (some (-1)) = l.dropLast := by
  have h0 : 0 < l.length := List.length_pos_iff.mpr h
  unfold cutD
  have e1 : HT.sIx l.length 0 none = 0 := rfl
  have e2 : HT.sIx l.length l.length (some (-1)) = l.length - 1 := by
    simp only [HT.sIx]
    rw [if_pos (by decide)]
    omega
  rw [e1, e2, List.drop_zero, Nat.sub_zero, List.dropLast_eq_take]
theorem cut_one {l : List D} : cutD l (some 1) none = l.drop 1 := by
  unfold cutD
  have e1 : HT.sIx l.length 0 (some 1) = min 1 l.length := HT.sIx_nat _ _ 1
  have e2 : HT.sIx l.length l.length none = l.length := rfl
  rw [e1, e2]
  by_cases z : 1 ≤ l.length
  · rw [Nat.min_eq_left z, List.take_of_length_le (by rw [List.length_drop]; omega)]
  · have : l = [] := List.eq_nil_of_length_eq_zero (by omega)
    subst this; rfl
theorem catA {μ : Mu} {p : Addr} {l : List D} (h : μ p = some (.lst l)) : catOf μ (.adr p) = some l := by simp [catOf, h]
def qput : St := .put ⟨0, 1, 1, 0⟩ "q" 0 0 0 1
theorem q_sw {N : Int} (h : 1 ≤ N) : SW N qput := ⟨by intro z hz; rw [List.mem_singleton.mp hz]; decide +kernel, by decide +kernel, h⟩
theorem sw_kOk {N : Int} {ss : List St} {bs : List Int} (h1 : 1 ≤ N) (hs : ∀ s ∈ ss, SW N s) (hl : ss.length ≤ 1000) (hb : brOk (ss.length : Nat) 0 bs) (hbl : bs.length ≤ 1000) : kOk N ss bs :=
  ⟨h1, fun s h => ⟨(hs s h).isOk, (hs s h).short⟩, hl, hbl, hb⟩
theorem ok__law_made_right {A : Cls} : ∀ ds μ q e, c__law_made_right A ds μ q e → rd__law_made_right A (c_Kernel___eq__ A) (c_Kernel___init__ A) (c_Kernel___len__ A) (c_Kernel_barriers A) (c_Kernel_lanes A) (c_Kernel_statements A) (c_Kernel_with_barriers A) (c__law_accesses_right A) (c__law_bent A) (c__law_same A) e (endsD q) (startD 15 ds) μ := by
  rintro ds μ q e ⟨p, n, N, ss, bs, rfl, hk, hs, hn, h⟩
  have hsl := hk.sl; have hbl := hk.bl; have hN1 := hk.N1; have hN2 := hk.N2
  have lm : ((ss.map St.d).length : Nat) = ss.length := List.length_map ..
  have lb : ((bs.map D.int).length : Nat) = bs.length := List.length_map ..
  have ps : plainDs 61 (ss.map St.d) = true := plainDs_up hk.pl
  have sw : ∀ s ∈ ss, SW N s := fun s hs => (hk.sg s hs).toSW
  intro F hF
  have neF := hs.ne hF
  intro G hG
  have hG : updM μ F (.lst (ss.map St.d)) G = none := hG
  have neFG : G ≠ F := fun z => by rw [z, updM_same] at hG; cases hG
  rw [updM_ne neFG] at hG
  have neG := hs.ne hG
  have hF1 : updM (updM μ F (.lst (ss.map St.d))) G (.lst (bs.map D.int)) F = some (.lst (ss.map St.d)) := by rw [updM_ne neFG.symm, updM_same]
  have hG1 : updM (updM μ F (.lst (ss.map St.d))) G (.lst (bs.map D.int)) G = some (.lst (bs.map D.int)) := updM_same _ _ _
  have hs1 : Src p (updM (updM μ F (.lst (ss.map St.d))) G (.lst (bs.map D.int))) n := (hs.upn neF).upn neG
  have k1 : Ge p μ (updM (updM μ F (.lst (ss.map St.d))) G (.lst (bs.map D.int))) := (Ge.new hF).set hG
  generalize updM (updM μ F (.lst (ss.map St.d))) G (.lst (bs.map D.int)) = μ1 at hF1 hG1 hs1 k1 ⊢
  intro x hx
  refine mkZ (ss := ss) (bs := bs) hx rfl (mA hF1) (mA hG1) hk.kOk ⟨rfl, kns, _, updM_same _ _ _, ?_⟩
  rw [delM_updM _ hx]
  refine ⟨rfl, ?_⟩
  intro x hx
  refine mkZ (ss := ss) (bs := bs) hx rfl mL mT hk.kOk ⟨rfl, kns, _, updM_same _ _ _, ?_⟩
  rw [delM_updM _ hx]
  refine ⟨sz 2 rfl (by decide), rfl, ?_⟩
  refine ⟨⟨_, hF1⟩, sz 4 rfl (by decide), sz 7 rfl (by decide), _, hF1, by rw [sizeLine_eq]; omega, ?_⟩
  refine ⟨⟨_, (updM_ne neFG).trans hG1⟩, _, (updM_ne neFG).trans hG1, by rw [sizeLine_eq]; omega, ?_⟩
  have hs2 := (hs1.upn (m := .lst (ss.map St.d ++ [.tup [.str "put", .tup [.int 0, .int 1, .int 1, .int 0], .str "x", .int 0, .int 0, .int 0, .int 0]])) neF).upn (m := .lst (bs.map D.int ++ [.int 99])) neG
  have k2 := (k1.set (m := .lst (ss.map St.d ++ [.tup [.str "put", .tup [.int 0, .int 1, .int 1, .int 0], .str "x", .int 0, .int 0, .int 0, .int 0]])) hF).set (m := .lst (bs.map D.int ++ [.int 99])) hG
  generalize updM (updM μ1 F (.lst (ss.map St.d ++ [.tup [.str "put", .tup [.int 0, .int 1, .int 1, .int 0], .str "x", .int 0, .int 0, .int 0, .int 0]]))) G (.lst (bs.map D.int ++ [.int 99])) = μ2 at hs2 k2 ⊢
  refine ⟨rfl, N, ss, bs, rfl, rfl, N, ss, bs, rfl, .inl ⟨rfl, N, ss, bs, rfl, .inl ⟨rfl, N, ss, bs, rfl, ss.length, rfl, by rw [sizeLine_eq]; omega, ?_⟩⟩⟩
  refine ⟨sz 4 rfl (by decide), ?_⟩
  dsimp only [dgName]
  rw [← lm]
  refine ⟨sz 4 rfl (by decide), _, rfl, ?_, ?_, ?_⟩
  · have t4 : plainDs 62 (ss.map St.d) = true := plainDs_up ps
    show plainDs 63 [.int N, .lst (ss.map St.d), .lst (bs.map D.int), .int _] = true
    simp only [plainDs, plainD, t4, plain_ints, Bool.and_self, Bool.and_true]
  · exact shownOk_B (okB_lst (okBs_cons (okB_int (by omega)) (okBs_cons (okB_lst hk.sts) (okBs_cons (okB_lst hk.brs) (okBs_cons (okB_int (by omega)) okBs_nil))))) (by decide)
  refine ⟨rfl, .inl ⟨_, _, rfl⟩, .inl ⟨N, ss, bs, N, ss, bs, rfl, hk.pl63, hk.pl63, _, rfl, ?_⟩⟩
  rw [keq_refl hk.pl63]
  refine ⟨rfl, .inl ⟨_, _, rfl⟩, .inl ⟨N, ss, bs, N, ss, bs, rfl, hk.pl63, hk.pl63, _, rfl, ?_⟩⟩
  rw [keq_refl hk.pl63]
  refine ⟨rfl, N, ss, bs, rfl, .inr fun r hr => ⟨⟨_, updM_same _ _ _⟩, _, updM_same _ _ _, by rw [sizeLine_eq]; omega, ?_⟩⟩
  rw [updM_updM]
  have hs3 := hs2.upn (m := .lst (ss.map St.d ++ [.int 0])) (hs2.ne hr)
  have k3 := k2.trans (Ge.new (p := p) (m := .lst (ss.map St.d ++ [.int 0])) hr)
  generalize updM μ2 r (.lst (ss.map St.d ++ [.int 0])) = μ3 at hs3 k3 ⊢
  refine ⟨rfl, N, ss, bs, rfl, .inr fun r hr => ⟨⟨_, updM_same _ _ _⟩, _, updM_same _ _ _, by rw [sizeLine_eq]; omega, ?_⟩⟩
  rw [updM_updM]
  have hs4 := hs3.upn (m := .lst (bs.map D.int ++ [.int 0])) (hs3.ne hr)
  have k4 := k3.trans (Ge.new (p := p) (m := .lst (bs.map D.int ++ [.int 0])) hr)
  generalize updM μ3 r (.lst (bs.map D.int ++ [.int 0])) = μ4 at hs4 k4 ⊢
  refine ⟨rfl, N, ss, bs, rfl, .inl ⟨hk.pl63, hk.pl63, ?_⟩⟩
  refine iteF (by show (!eqD (.lst (ss.map St.d)) (.lst (ss.map St.d))) = false; rw [eqL_refl hk.pl63]; rfl) ?_
  refine ⟨rfl, N, ss, bs, rfl, .inl ⟨plain_ints 63 bs, plain_ints 63 bs, ?_⟩⟩
  refine iteF (by show (!eqD (.lst (bs.map D.int)) (.lst (bs.map D.int))) = false; rw [eqL_refl (k := 63) (plain_ints 63 bs)]; rfl) ?_
  refine ⟨N, ss, bs, rfl, hk, fun μ5 sub5 => ?_⟩
  have hs5 : Src p μ5 n := by
    obtain ⟨g, s, c, e1, r⟩ := hs4
    exact ⟨g, s, c, sub5 _ _ e1, r⟩
  have k5 : Ge p μ μ5 := k4.trans fun a m _ e => sub5 a m e
  have hk1 : kOk (N + 1) ss bs := sw_kOk (by omega) (fun s hs => ⟨(sw s hs).nm, (sw s hs).ok, by have := (sw s hs).le; omega⟩) (by omega) hk.br (by omega)
  have hk0 : kOk N ss [] := sw_kOk hN1 sw (by omega) trivial (by decide)
  intro x hx
  refine mkZ (N := N + 1) (ss := ss) (bs := bs) hx rfl mL mL hk1 ⟨rfl, kns, _, updM_same _ _ _, ?_⟩
  rw [delM_updM _ hx]
  refine ⟨⟨rfl, by decide +kernel⟩, sz 0 rfl (by decide), N, ss, .lst [], bs, [], rfl, mL, hk0, ?_⟩
  refine ⟨sz 2 rfl (by decide), fun R hR => ?_⟩
  have neR := hs5.ne hR
  have hs5' := hs5.upn (m := .lst [kD A (N + 1) ss bs, kD A N ss []]) neR
  dsimp only [dgName]
  refine ⟨fun i l μ' => ∃ ks : List Kq, l = ks.map (Kq.D A) ∧ ks.length = i ∧ (∀ k ∈ ks, k.pl) ∧ Src p μ' (n + 20 * (i : Nat)) ∧ Ge p (updM μ5 R (.lst [kD A (N + 1) ss bs, kD A N ss []])) μ', ⟨[], rfl, rfl, (fun _ h => nomatch h), hs5'.le (by omega), Ge.refl⟩, fun i l μ' hi hP => ⟨trivial, ?_⟩, ?_, ?_⟩
  · obtain ⟨ks, rfl, e2, _⟩ := hP
    rw [ints_len] at hi
    have hi : i ≤ 3 := hi
    rw [List.length_map, sizeLine_eq]; omega
  · rintro i d l μ' hi ⟨ks, rfl, e2, al, hs', k'⟩
    obtain ⟨hlt, rfl⟩ := ints_get hi
    have hlt : i < 3 := hlt
    refine ⟨p, ss, N, _, rfl, hs', by omega, sw, by omega, fun ss' μ6 sw' hl' hs6 k6 => ?_⟩
    intro x hx
    refine mkZ (N := N) (ss := ss') (bs := bs) hx rfl mL mL (sw_kOk hN1 sw' (by omega) (by rw [hl']; exact hk.br) (by omega)) ⟨rfl, kns, _, updM_same _ _ _, ?_⟩
    rw [delM_updM _ hx]
    refine ⟨ks ++ [⟨N, ss', bs⟩], by rw [List.map_append]; rfl, by rw [List.length_append]; show ks.length + 1 = _; omega, fun k hk => ?_, hs6.le (by omega), k'.trans k6⟩
    rcases List.mem_append.mp hk with w | w
    · exact al k w
    · rw [List.mem_singleton.mp w]
      exact plainDs_up (sts_plain sw')
  rintro l μ6 ⟨ks, rfl, hkl, al, hs6, k6⟩
  have hkl : ks.length = 3 := hkl
  have hs6 : Src p μ6 (n + 60) := hs6.le (by show n + 20 * ((3 : Nat) : Int) ≤ _; omega)
  have hR6 := k6 R _ neR (updM_same _ _ _)
  refine ⟨_, _, catA hR6, rfl, szA (by rw [List.length_map, hkl]; show 2 + 3 ≤ 5000; decide), fun R2 hR2 => ?_⟩
  have neR2 := hs6.ne hR2
  have k06 := ((k5.trans (Ge.new hR)).trans k6).trans (Ge.new (p := p) (m := .lst ((⟨N + 1, ss, bs⟩ :: ⟨N, ss, []⟩ :: ks : List Kq).map (Kq.D A))) hR2)
  have hs7 := hs6.upn (m := .lst ((⟨N + 1, ss, bs⟩ :: ⟨N, ss, []⟩ :: ks : List Kq).map (Kq.D A))) neR2
  have al7 : ∀ k ∈ (⟨N + 1, ss, bs⟩ :: ⟨N, ss, []⟩ :: ks : List Kq), k.pl := by
    intro k hk'
    rcases List.mem_cons.mp hk' with rfl | hk'
    · exact ps
    rcases List.mem_cons.mp hk' with rfl | hk'
    · exact ps
    exact al k hk'
  have ll7 : (⟨N + 1, ss, bs⟩ :: ⟨N, ss, []⟩ :: ks : List Kq).length = 5 := by simp [hkl]
  show dSeq _ _ (endsD q) [some (.adr p), some (.int N), some (.lst (ss.map St.d)), some (.lst (bs.map D.int)), some (.adr F), some (.adr G), some (kD A N ss bs), some (kD A N ss bs), some (.lst [.int N, .lst (ss.map St.d), .lst (bs.map D.int), .int _]), some (.adr R2), none, none, none, none, none] (updM μ6 R2 (.lst ((⟨N + 1, ss, bs⟩ :: ⟨N, ss, []⟩ :: ks : List Kq).map (Kq.D A))))
  generalize (⟨N + 1, ss, bs⟩ :: ⟨N, ss, []⟩ :: ks : List Kq) = k7 at k06 hs7 al7 ll7 ⊢
  have hm7 : updM μ6 R2 (.lst (k7.map (Kq.D A))) R2 = some (.lst (k7.map (Kq.D A))) := updM_same _ _ _
  generalize updM μ6 R2 (.lst (k7.map (Kq.D A))) = μ7 at k06 hs7 hm7 ⊢
  refine ⟨sz 0 rfl (by decide), hk.pl63, rfl, ?_⟩
  have eb : eqD (nrm μ7 (.lst (ss.map St.d))) (nrm μ7 (.lst [])) = (ss.map St.d).isEmpty := eqD_nil _
  rw [eb]
  refine iteB (fun z => ?_) (fun z => ?_)
  · have hne : ss ≠ [] := by
      rintro rfl
      cases z
    have h1 : 1 ≤ ss.length := List.length_pos_iff.mpr hne
    have hne' : ss.map St.d ≠ [] := by simp [hne]
    refine ⟨⟨_, hm7⟩, ?_⟩
    refine ⟨fun j l μ' => μ7 = μ' ∧ l = (blw (bs.take j) (((ss.map St.d).length : Nat) - 1)).map D.int, ⟨rfl, rfl⟩, fun j l μ' hj hP => ⟨trivial, ?_⟩, ?_, ?_⟩
    · have := blw_len (bs := bs) (k := ((ss.map St.d).length : Nat) - 1) (j := j)
      rw [hP.2, List.length_map, sizeLine_eq]; omega
    · rintro j d l μ' hj ⟨rfl, rfl⟩
      obtain ⟨b, hb', rfl⟩ := map_get hj
      have e1 := blw_succ (k := ((ss.map St.d).length : Nat) - 1) hb'
      refine iteD (fun z => ?_) (fun z => ?_)
      · refine ⟨rfl, ?_⟩
        rw [e1, if_pos z, List.map_append]; rfl
      · refine ⟨rfl, ?_⟩
        rw [e1, if_neg z, List.append_nil]
    rintro l μ' ⟨rfl, rfl⟩
    have e2 : bs.take (bs.map D.int).length = bs := by rw [List.length_map, List.take_length]
    rw [e2]
    have hka : kOk N ss.dropLast (blw bs (((ss.map St.d).length : Nat) - 1)) := sw_kOk hN1 (fun s hs => sw s ((List.dropLast_sublist ss).subset hs)) (by rw [List.length_dropLast]; omega) (brOk_some (m := (ss.length : Nat)) (fun x a b => by rw [List.length_dropLast]; omega) hk.br) (by have := blw_len' (bs := bs) (k := ((ss.map St.d).length : Nat) - 1); omega)
    intro x hx
    refine mkZ (N := N) (ss := ss.dropLast) (bs := blw bs (((ss.map St.d).length : Nat) - 1)) hx rfl (by rw [List.map_dropLast]; exact (cut_last hne').symm ▸ mL) mL hka ⟨rfl, kns, _, updM_same _ _ _, ?_⟩
    rw [delM_updM _ hx]
    refine ⟨_, hm7, by rw [List.length_map, ll7, sizeLine_eq]; decide, ?_⟩
    refine ⟨⟨_, updM_same _ _ _⟩, sz 4 rfl (by decide), sz 7 rfl (by decide), sz 1 rfl (by decide), ?_⟩
    have el : (cutD (ss.map St.d) (some 1) none) = (ss.drop 1).map St.d := by rw [cut_one, List.map_drop]
    refine ⟨szA (by rw [el, List.length_map, List.length_drop]; show 1 + _ ≤ _; omega), ?_⟩
    have hkb : kOk N (qput :: ss.drop 1) bs := by
      have e : (qput :: ss.drop 1).length = ss.length := by rw [List.length_cons, List.length_drop]; omega
      refine sw_kOk hN1 (fun s hs => ?_) (by rw [e]; omega) (by rw [e]; exact hk.br) (by omega)
      rcases List.mem_cons.mp hs with rfl | hs
      · exact q_sw hN1
      · exact sw s (List.mem_of_mem_drop hs)
    intro x hx
    refine mkZ (N := N) (ss := qput :: ss.drop 1) (bs := bs) hx rfl (by rw [el]; exact mL) mL hkb ⟨rfl, kns, _, updM_same _ _ _, ?_⟩
    rw [delM_updM _ hx]
    refine ⟨_, updM_same _ _ _, by rw [List.length_append, List.length_map, ll7, sizeLine_eq]; show 5 + 1 < _; decide, ?_⟩
    rw [updM_updM]
    have e9 : k7.map (Kq.D A) ++ [.ins A.Kernel kns [.int N, .lst (ss.dropLast.map St.d), .lst ((blw bs (((ss.map St.d).length : Nat) - 1)).map D.int), .non]] ++ [.ins A.Kernel kns [.int N, .lst ((qput :: ss.drop 1).map St.d), .lst (bs.map D.int), .non]] = (k7 ++ [(⟨N, ss.dropLast, blw bs (((ss.map St.d).length : Nat) - 1)⟩ : Kq)] ++ [(⟨N, qput :: ss.drop 1, bs⟩ : Kq)]).map (Kq.D A) := by
      rw [List.map_append, List.map_append]; rfl
    rw [e9]
    have hs9 := hs7.upn (m := .lst ((k7 ++ [(⟨N, ss.dropLast, blw bs (((ss.map St.d).length : Nat) - 1)⟩ : Kq)] ++ [(⟨N, qput :: ss.drop 1, bs⟩ : Kq)]).map (Kq.D A))) neR2
    refine made_loop (A := A) (e := e) hk (updM_same _ _ _) ?_ (h _ (hs9.le (by omega)) ?_)
    · intro k hk'
      rcases List.mem_append.mp hk' with w | w
      · rcases List.mem_append.mp w with w | w
        · exact al7 k w
        · rw [List.mem_singleton.mp w]
          exact plainDs_up (sts_plain (m := N) fun s hs => sw s ((List.dropLast_sublist ss).subset hs))
      · rw [List.mem_singleton.mp w]
        exact plainDs_up (sts_plain (m := N) fun s hs => by
          rcases List.mem_cons.mp hs with rfl | hs
          · exact q_sw hN1
          · exact sw s (List.mem_of_mem_drop hs))
    · refine k06.set ?_
      cases hh : μ R2 with
      | none => rfl
      | some m =>
        have := ((k5.trans (Ge.new hR)).trans k6) R2 m neR2 hh
        rw [hR2] at this; cases this
  · exact made_loop (A := A) (e := e) hk hm7 al7 (h _ (hs7.le (by omega)) k06)
end Law

set_option linter.all false
set_option maxRecDepth 100000
set_option maxHeartbeats 2000000
/-! k05: the law -/
namespace Law
open PySem L2 DL Ar
theorem p29 : (10 : Int) ^ (29 : Int).toNat = 100000000000000000000000000000 := by decide
theorem ixH2 {x y : D} {μ : Mu} {q : DK} : True := trivial
theorem pair_txt {N : Int} {ss : List St} {bs cs : List Int} (h : KG N ss bs) (hc : brOk (ss.length : Nat) 0 cs) (hl : cs.length ≤ 100) : plainD 64 (.lst [.lst (ss.map St.d), .lst (cs.map D.int)]) = true ∧ shownOk (.lst [.lst (ss.map St.d), .lst (cs.map D.int)]) := by
  refine ⟨?_, ?_⟩
  · have t4 : plainDs 62 (ss.map St.d) = true := plainDs_up (plainDs_up h.pl)
    show plainDs 63 [.lst (ss.map St.d), .lst (cs.map D.int)] = true
    simp only [plainDs, plainD, t4, plain_ints, Bool.and_self, Bool.and_true]
  · have hb : okBs 36000 (cs.map D.int) := brs_txt (m := 0) (fun b hb => by have := br_mem hc b hb; have := h.sl; omega) (by omega)
    exact shownOk_B (okB_lst (okBs_cons (okB_lst h.sts) (okBs_cons (okB_lst hb) okBs_nil))) (by decide)
def c_law (A : Cls) : DSp := spLawD
theorem len_law {A : Cls} : ∀ ds μ q e, c_law A ds μ q e → ds.length = 1 := fun ds μ q e ⟨_, h, _⟩ => by rw [h]; rfl
theorem ok_law {A : Cls} : ∀ ds μ q e, c_law A ds μ q e → rd_law A (c_Kernel___init__ A) (c_Kernel___len__ A) (c_Kernel_barriers A) (c_Kernel_statements A) (c_Kernel_with_barriers A) (c__law_draw A) (c__law_drawn A) (c__law_made_right A) (c__law_places A) (c__law_same A) (c__law_source A) (c__law_sum_right A) e (endsD q) (startD 9 ds) μ := by
  rintro ds μ q e ⟨ns, rfl, hl, h⟩
  refine ⟨ns, rfl, hl, fun p μ1 hp hs0 k0 => ?_⟩
  refine ⟨fun j δ μ' => ∃ x2 x3 x4 x5 x6 x7 x8, δ = [some (.rol (ns.map D.int)), some (.adr p), x2, x3, x4, x5, x6, x7, x8] ∧ Src p μ' (5000 * j), ⟨_, _, _, _, _, _, _, rfl, hs0.le (by decide)⟩, fun _ _ _ _ _ => trivial, ?_, ?_⟩
  · rintro j z δ μ' hi ⟨x2, x3, x4, x5, x6, x7, x8, rfl, hs⟩
    obtain ⟨hj, rfl⟩ := ints_get hi
    have hj : j < 20 := by
      have : (2 + (if (((ns.map D.int).length : Nat) : Int) < 6 then (((ns.map D.int).length : Nat) : Int) else 6)) ≤ (15 : Int) := by
        rw [List.length_map]; split <;> omega
      have hj := hj
      generalize (2 + (if (((ns.map D.int).length : Nat) : Int) < 6 then (((ns.map D.int).length : Nat) : Int) else 6)) = z at this hj
      omega
    refine ⟨p, 30, _, rfl, hs, by omega, by decide, by decide, fun v1 μ2 a0 a1 hs1 k1 => ?_⟩
    refine ⟨CPow_of (j := 29) (by decide) (by decide) (by decide), sz 2 rfl (by decide), ?_⟩
    refine ⟨p, 2, _, rfl, hs1, by omega, by decide, by decide, fun v2 μ3 b0 b1 hs2 k2 => ?_⟩
    refine pickL [1 + v1, (10 : Int) ^ (29 : Int).toNat] (fun v => 1 ≤ v ∧ v ≤ 100000000000000000000000000000) μ3 b0 b1 ?_ fun m hm => ?_
    · intro v hv
      rw [p29] at hv
      simp only [List.mem_cons, List.not_mem_nil, or_false] at hv
      omega
    dsimp only [dgName]
    refine ⟨p, m, _, rfl, hs2, by omega, by omega, by omega, fun ss bs μ4 hsg hsl hbr hbl hs4 k4 => ?_⟩
    have g1 : KG m ss bs := ⟨by omega, by omega, hsg, hsl, hbr, hbl⟩
    refine ⟨p, m, _, rfl, hs4, by omega, by omega, by omega, fun ts cs μ5 htg htl hcr hcl hs5 k5 => ?_⟩
    have g2 : KG m ts cs := ⟨by omega, by omega, htg, htl, hcr, hcl⟩
    refine ⟨p, _, m, ss, bs, rfl, g1, hs5, by omega, fun μ6 hs6 k6 => ?_⟩
    refine ⟨m, ss, bs, ts, cs, rfl, g1, g2, fun μ7 sub7 => ?_⟩
    have hs7 : Src p μ7 (5000 * (j : Nat) + 1 + 1 + 1000 + 1000 + 100) := by
      obtain ⟨g, s, c, e1, r⟩ := hs6
      exact ⟨g, s, c, sub7 _ _ e1, r⟩
    have lm : ((ss.map St.d).length : Nat) = ss.length := List.length_map ..
    refine ⟨p, ((ss.map St.d).length : Nat), _, rfl, hs7, by omega, by omega, by omega, .inr fun ds μ8 hdr hdl hs8 k8 => ?_⟩
    intro M hM
    have neM := hs8.ne hM
    rw [lm] at hdr
    dsimp only [dgName]
    conv => whnf
    rw [seqA (updM_same μ8 M _)]
    have hk : kOk m ss ds := sw_kOk g1.N1 (fun s hs => (hsg s hs).toSW) (by omega) hdr (by omega)
    intro x hx
    refine mkZ (N := m) (ss := ss) (bs := bs) hx rfl mL mL g1.kOk ⟨rfl, kns, _, updM_same _ _ _, ?_⟩
    rw [delM_updM _ hx]
    refine ⟨⟨rfl, by decide +kernel⟩, rfl, m, ss, .adr M, bs, ds, rfl, mA (updM_same _ _ _), hk, ?_⟩
    refine ⟨⟨_, updM_same _ _ _⟩, _, updM_same _ _ _, by rw [List.length_map, sizeLine_eq]; omega, ?_⟩
    rw [updM_updM]
    obtain ⟨t1, t2⟩ := pair_txt g1 hdr hdl
    refine ⟨rfl, m, ss, ds, rfl, .inl ⟨rfl, m, ss, ds, rfl, .inl ?_⟩⟩
    refine ⟨sz 2 rfl (by decide), sz 2 rfl (by decide), _, rfl, t1, t2, ?_⟩
    exact ⟨_, _, _, _, _, _, _, rfl, (hs8.upn neM).le (by omega)⟩
  · rintro δ μ' ⟨x2, x3, x4, x5, x6, x7, x8, rfl, hs⟩
    have k0 : ∀ N : Int, 1 ≤ N → kOk N [] [] := fun N h => ⟨h, (fun _ h => nomatch h), by decide, by decide, trivial⟩
    refine ⟨sz 0 rfl (by decide), ?_⟩
    intro x hx
    refine mkZ (N := 1) (ss := []) (bs := []) hx rfl mL mT (k0 1 (by decide)) ⟨rfl, kns, _, updM_same _ _ _, ?_⟩
    rw [delM_updM _ hx]
    refine ⟨rfl, 1, [], [], rfl, 0, rfl, by decide, ?_⟩
    refine ⟨sz 0 rfl (by decide), rfl, ?_⟩
    intro x hx
    refine mkZ (N := 2) (ss := []) (bs := []) hx rfl mL mT (k0 2 (by decide)) ⟨rfl, kns, _, updM_same _ _ _, ?_⟩
    rw [delM_updM _ hx]
    exact ⟨rfl, 2, [], [], rfl, .inl ⟨sz 0 rfl (by decide), rfl, rfl, fin (h _) rfl⟩⟩
end Law

namespace Law
open PySem L2 DL
structure Glob (w : World) (K : PySem.W.Frag) (mg : Str → Option Value) (A : Cls) (fI : Addr) : Prop where
  e_InvalidBarrier : PySem.ErrX.ErrTxt K mg "InvalidBarrier" A.InvalidBarrier fI
  e_InvalidLanes : PySem.ErrX.ErrTxt K mg "InvalidLanes" A.InvalidLanes fI
  e_InvalidNumber : PySem.ErrX.ErrTxt K mg "InvalidNumber" A.InvalidNumber fI
  e_InvalidStatement : PySem.ErrX.ErrTxt K mg "InvalidStatement" A.InvalidStatement fI
  e_UnlikeLanes : PySem.ErrX.ErrTxt K mg "UnlikeLanes" A.UnlikeLanes fI
  z_abs : mg "abs" = none
  z_all : mg "all" = none
  z_enumerate : mg "enumerate" = none
  z_int : mg "int" = none
  z_isinstance : mg "isinstance" = none
  z_len : mg "len" = none
  z_list : mg "list" = none
  z_min : mg "min" = none
  z_range : mg "range" = none
  z_repr : mg "repr" = none
  z_str : mg "str" = none
  z_tuple : mg "tuple" = none
  g_WRITTEN : ∃ t, mg "WRITTEN" = some (.int 2 t)
  k_Kernel : L2.Cls K A.Kernel
  a_Kernel__barriers : NoAttr K A.Kernel "_barriers"
  a_Kernel__lanes : NoAttr K A.Kernel "_lanes"
  a_Kernel__racing : NoAttr K A.Kernel "_racing"
  a_Kernel__statements : NoAttr K A.Kernel "_statements"
  t_ACCESSES : KdTab K w mg "ACCESSES" A.d_ACCESSES tab_ACCESSES miss_ACCESSES
  t_ARRAYS : KdTab K w mg "ARRAYS" A.d_ARRAYS tab_ARRAYS miss_ARRAYS
  t_ITEMS : KdTab K w mg "ITEMS" A.d_ITEMS tab_ITEMS miss_ITEMS
  ne_Kernel : NeOk K A.Kernel
  sf_Kernel : PySem.W.selfFirst K A.Kernel = true
  ii_Kernel : C8.InsC K A.Kernel
  n_Kernel : mg "Kernel" = some (.ref A.Kernel)
  kc_Kernel : PySem.W.isClsIn K A.Kernel = true
  kt_Kernel : PySem.W.typeIn K (.ref A.Kernel) = some (.type "type")
  triv : True
abbrev sc_N_is_guard : List Str := ["guard", "low", "high", "step", "rest"]
theorem sc_is_guard : FnScope ["guard", "low", "high", "step", "rest"] ["guard"] (defScope s_is_guard) := ⟨rfl, rfl, rfl, by decide +kernel, rfl, by decide +kernel, by decide +kernel⟩
theorem fd_is_guard {P : Program} {w : World} {K : PySem.W.Frag} {mg : Str → Option Value} {base : Heap} {A : Cls} {fI f : Addr} {fd : FuncData} (T : Glob w K mg A fI) (F : Fun K "is_guard" "is_guard" s_is_guard f fd) : FnG P w K mg base 1 f fd ["guard"] (LSp K (c_is_guard A)) :=
  fnD_of (t := fun e => rd_is_guard A e) F sc_is_guard rfl len_is_guard (fun cdv A0 outer s H E O e C tk ow => ((dss_cons (ds_asg (dv 0) (dg_tup rfl (dgs_cons (dg_name (i := 1) sc_is_guard.nd rfl (Or.inl rfl)) (dgs_cons (dg_name (i := 2) sc_is_guard.nd rfl (Or.inl rfl)) (dgs_cons (dg_name (i := 3) sc_is_guard.nd rfl (Or.inl rfl)) (dgs_cons (dg_name (i := 4) sc_is_guard.nd rfl (Or.inl rfl)) dgs_nil))))))
    (dss_one (ds_ret (de_andT (de_chain op_leX op_leX od_leX od_leX de_int (dv 1) (dv 2)) (de_one (de_chain op_leX op_lt od_leX od_lt de_int (dv 4) (dv 3))))))))) ok_is_guard
theorem dh_is_guard {P : Program} {w : World} {K : PySem.W.Frag} {mg : Str → Option Value} {base : Heap} {A : Cls} {fI f : Addr} {fd : FuncData} (T : Glob w K mg A fI) (F : Fun K "is_guard" "is_guard" s_is_guard f fd) (hm : mg "is_guard" = some (.ref f)) : Fd P w K mg base "is_guard" 1 ["guard"] (c_is_guard A) := by
  exact ⟨_, _, (fd_is_guard T F), hm, F.kp, F.binds fun _ _ _ _ _ _ us hl => match us, hl with | [_], _ => rfl⟩
abbrev sc_N_is_array_name : List Str := ["name", "letter"]
theorem sc_is_array_name : FnScope ["name", "letter"] ["name"] (defScope s_is_array_name) := ⟨rfl, rfl, rfl, by decide +kernel, rfl, by decide +kernel, by decide +kernel⟩
theorem fd_is_array_name {P : Program} {w : World} {K : PySem.W.Frag} {mg : Str → Option Value} {base : Heap} {A : Cls} {fI f : Addr} {fd : FuncData} (T : Glob w K mg A fI) (F : Fun K "is_array_name" "is_array_name" s_is_array_name f fd) : FnG P w K mg base 1 f fd ["name"] (LSp K (c_is_array_name A)) :=
  fnD_of (t := fun e => rd_is_array_name A e) F sc_is_array_name rfl len_is_array_name (fun cdv A0 outer s H E O e C tk ow => ((dss_one (ds_ret (de_andT (de_chain op_leX op_leX od_leX od_leX de_int (de_callB call_len cd_len rfl T.z_len PySem.boot_len (da_cons (dv 0) da_nil)) de_int) (de_one (de_callB (cr_all rfl) cd_all rfl T.z_all (by decide +kernel) (da_cons (de_lc rfl sc_is_array_name.nd (di_sq (dv 0)) (blkOk_by (show blkC sc_N_is_array_name (defScope s_is_array_name) _ [("letter", 1)] = true from by decide +kernel)) (by decide) (fun _ _ _ _ _ => (dg_name (i := 1) sc_is_array_name.nd rfl (Or.inl rfl))) (fun _ _ _ _ _ => dts_nil) (fun _ _ _ _ _ => (de_chain op_leX op_leX od_leX od_leX de_str (dv 1) de_str)) (own := [("letter", 1)])) da_nil)))))))) ok_is_array_name
theorem dh_is_array_name {P : Program} {w : World} {K : PySem.W.Frag} {mg : Str → Option Value} {base : Heap} {A : Cls} {fI f : Addr} {fd : FuncData} (T : Glob w K mg A fI) (F : Fun K "is_array_name" "is_array_name" s_is_array_name f fd) (hm : mg "is_array_name" = some (.ref f)) : Fd P w K mg base "is_array_name" 1 ["name"] (c_is_array_name A) := by
  exact ⟨_, _, (fd_is_array_name T F), hm, F.kp, F.binds fun _ _ _ _ _ _ us hl => match us, hl with | [_], _ => rfl⟩
abbrev sc_N_is_statement : List Str := ["statement", "lanes", "word", "guard", "place"]
theorem sc_is_statement : FnScope ["statement", "lanes", "word", "guard", "place"] ["statement", "lanes"] (defScope s_is_statement) := ⟨rfl, rfl, rfl, by decide +kernel, rfl, by decide +kernel, by decide +kernel⟩
theorem fd_is_statement {P : Program} {w : World} {K : PySem.W.Frag} {mg : Str → Option Value} {base : Heap} {A : Cls} {fI f : Addr} {fd : FuncData} (T : Glob w K mg A fI) (h_is_array_name : Fd P w K mg base "is_array_name" 1 ["name"] (c_is_array_name A)) (h_is_guard : Fd P w K mg base "is_guard" 1 ["guard"] (c_is_guard A)) (F : Fun K "is_statement" "is_statement" s_is_statement f fd) : FnG P w K mg base 2 f fd ["statement", "lanes"] (LSp K (c_is_statement A)) :=
  fnD_of (t := fun e => rd_is_statement A (c_is_array_name A) (c_is_guard A) e) F sc_is_statement rfl len_is_statement (fun cdv A0 outer s H E O e C tk ow => ((dss_cons (ds_asg (de_ix (dv 0) de_int) (dg_name (i := 2) sc_is_statement.nd rfl (Or.inl rfl)))
    (dss_cons (ds_if (PW.pt (dw_or (dt_kdNotIn T.t_ITEMS (dv 2) (de_glob T.t_ITEMS rfl)) (dw_or1 (dt_cmp (op_neA C.room.units) od_neA (de_callB call_len cd_len rfl T.z_len PySem.boot_len (da_cons (dv 0) da_nil)) (de_kdIx T.t_ITEMS (de_glob T.t_ITEMS rfl) (dv 2)) (nomark _))))) (dss_one (ds_ret de_bl)) dss_nil)
    (dss_cons (ds_if (dt_not (dt_truth (de_callB (cr_all rfl) cd_all rfl T.z_all (by decide +kernel) (da_cons (de_lc rfl sc_is_statement.nd (di_sq (de_kdIx T.t_ARRAYS (de_glob T.t_ARRAYS rfl) (dv 2))) (blkOk_by (show blkC sc_N_is_statement (defScope s_is_statement) _ [("place", 4)] = true from by decide +kernel)) (by decide) (fun _ _ _ _ _ => (dg_name (i := 4) sc_is_statement.nd rfl (Or.inl rfl))) (fun _ _ _ _ _ => dts_nil) (fun _ _ _ _ _ => (de_callF h_is_array_name (C.room.mono (by decide)) C.gd passesN rfl (da_cons (de_ix (dv 0) (dv 4)) da_nil))) (own := [("place", 4)])) da_nil)))) (dss_one (ds_ret de_bl)) dss_nil)
    (dss_cons (ds_asg (de_ix (dv 0) de_int) (dg_name (i := 3) sc_is_statement.nd rfl (Or.inl rfl)))
    (dss_one (ds_ret (de_andT (de_callF h_is_guard (C.room.mono (by decide)) C.gd C.px rfl (da_cons (dv 3) da_nil)) (de_one (de_cmp op_leX od_leX (de_ix (dv 3) de_int) (dv 1) (nomark _)))))))))))) ok_is_statement
theorem dh_is_statement {P : Program} {w : World} {K : PySem.W.Frag} {mg : Str → Option Value} {base : Heap} {A : Cls} {fI f : Addr} {fd : FuncData} (T : Glob w K mg A fI) (h_is_array_name : Fd P w K mg base "is_array_name" 1 ["name"] (c_is_array_name A)) (h_is_guard : Fd P w K mg base "is_guard" 1 ["guard"] (c_is_guard A)) (F : Fun K "is_statement" "is_statement" s_is_statement f fd) (hm : mg "is_statement" = some (.ref f)) : Fd P w K mg base "is_statement" 2 ["statement", "lanes"] (c_is_statement A) := by
  exact ⟨_, _, (fd_is_statement T h_is_array_name h_is_guard F), hm, F.kp, F.binds fun _ _ _ _ _ _ us hl => match us, hl with | [_, _], _ => rfl⟩
abbrev sc_N_access_at : List Str := ["statement", "number", "place", "word"]
theorem sc_access_at : FnScope ["statement", "number", "place", "word"] ["statement", "number", "place"] (defScope s_access_at) := ⟨rfl, rfl, rfl, by decide +kernel, rfl, by decide +kernel, by decide +kernel⟩
theorem fd_access_at {P : Program} {w : World} {K : PySem.W.Frag} {mg : Str → Option Value} {base : Heap} {A : Cls} {fI f : Addr} {fd : FuncData} (T : Glob w K mg A fI) (F : Fun K "access_at" "access_at" s_access_at f fd) : FnG P w K mg base 1 f fd ["statement", "number", "place"] (LSp K (c_access_at A)) :=
  fnD_of (t := fun e => rd_access_at A e) F sc_access_at rfl len_access_at (fun cdv A0 outer s H E O e C tk ow => ((dss_cons (ds_asg (de_if (dt_cmp (op_eqA C.room.units) od_eqA (dv 2) (de_gint rfl T.g_WRITTEN) (nomark _)) de_str de_str) (dg_name (i := 3) sc_access_at.nd rfl (Or.inl rfl)))
    (dss_one (ds_ret (de_tup (da_cons (dv 1) (da_cons (dv 3) (da_cons (de_ix (dv 0) (dv 2)) (da_cons (de_ix (dv 0) (de_add (dv 2) de_int)) (da_cons (de_ix (dv 0) (de_add (dv 2) de_int)) da_nil))))))))))) ok_access_at
theorem dh_access_at {P : Program} {w : World} {K : PySem.W.Frag} {mg : Str → Option Value} {base : Heap} {A : Cls} {fI f : Addr} {fd : FuncData} (T : Glob w K mg A fI) (F : Fun K "access_at" "access_at" s_access_at f fd) (hm : mg "access_at" = some (.ref f)) : Fd P w K mg base "access_at" 1 ["statement", "number", "place"] (c_access_at A) := by
  exact ⟨_, _, (fd_access_at T F), hm, F.kp, F.binds fun _ _ _ _ _ _ us hl => match us, hl with | [_, _, _], _ => rfl⟩
abbrev sc_N_accesses_of : List Str := ["statements", "number", "statement", "place"]
theorem sc_accesses_of : FnScope ["statements", "number", "statement", "place"] ["statements"] (defScope s_accesses_of) := ⟨rfl, rfl, rfl, by decide +kernel, rfl, by decide +kernel, by decide +kernel⟩
theorem fd_accesses_of {P : Program} {w : World} {K : PySem.W.Frag} {mg : Str → Option Value} {base : Heap} {A : Cls} {fI f : Addr} {fd : FuncData} (T : Glob w K mg A fI) (h_access_at : Fd P w K mg base "access_at" 1 ["statement", "number", "place"] (c_access_at A)) (F : Fun K "accesses_of" "accesses_of" s_accesses_of f fd) : FnG P w K mg base 2 f fd ["statements"] (LSp K (c_accesses_of A)) :=
  fnD_of (t := fun e => rd_accesses_of A (c_access_at A) e) F sc_accesses_of rfl len_accesses_of (fun cdv A0 outer s H E O e C tk ow => ((dss_one (ds_ret (de_lc2 rfl sc_accesses_of.nd (di_enX rfl T.z_enumerate (da_cons (dv 0) da_nil)) (blkOk_by (show blkC sc_N_accesses_of (defScope s_accesses_of) _ [("number", 1), ("statement", 2), ("place", 3)] = true from by decide +kernel)) (by decide) (by decide) (by decide) (fun _ _ _ _ _ => (dg_tup rfl (dgs_cons (dg_name (i := 1) sc_accesses_of.nd rfl (Or.inl rfl)) (dgs_cons (dg_name (i := 2) sc_accesses_of.nd rfl (Or.inl rfl)) dgs_nil)))) (fun _ _ _ _ _ => dts_nil) (fun _ _ _ _ _ => (di_sq (de_kdIx T.t_ACCESSES (de_glob T.t_ACCESSES rfl) (de_ix (dv 2) de_int)))) (fun _ _ _ _ _ => (dg_name (i := 3) sc_accesses_of.nd rfl (Or.inl rfl))) (fun _ _ _ _ _ => dts_nil) (fun _ _ _ _ _ => (de_callF h_access_at (C.room.mono (by decide)) C.gd passesN rfl (da_cons (dv 2) (da_cons (dv 1) (da_cons (dv 3) da_nil))))) (own := [("number", 1), ("statement", 2), ("place", 3)]) (vs1 := [3])))))) ok_accesses_of
theorem dh_accesses_of {P : Program} {w : World} {K : PySem.W.Frag} {mg : Str → Option Value} {base : Heap} {A : Cls} {fI f : Addr} {fd : FuncData} (T : Glob w K mg A fI) (h_access_at : Fd P w K mg base "access_at" 1 ["statement", "number", "place"] (c_access_at A)) (F : Fun K "accesses_of" "accesses_of" s_accesses_of f fd) (hm : mg "accesses_of" = some (.ref f)) : Fd P w K mg base "accesses_of" 2 ["statements"] (c_accesses_of A) := by
  exact ⟨_, _, (fd_accesses_of T h_access_at F), hm, F.kp, F.binds fun _ _ _ _ _ _ us hl => match us, hl with | [_], _ => rfl⟩
abbrev sc_N_count_up_to : List Str := ["barriers", "statement", "barrier"]
theorem sc_count_up_to : FnScope ["barriers", "statement", "barrier"] ["barriers", "statement"] (defScope s_count_up_to) := ⟨rfl, rfl, rfl, by decide +kernel, rfl, by decide +kernel, by decide +kernel⟩
theorem fd_count_up_to {P : Program} {w : World} {K : PySem.W.Frag} {mg : Str → Option Value} {base : Heap} {A : Cls} {fI f : Addr} {fd : FuncData} (T : Glob w K mg A fI) (F : Fun K "count_up_to" "count_up_to" s_count_up_to f fd) : FnG P w K mg base 1 f fd ["barriers", "statement"] (LSp K (c_count_up_to A)) :=
  fnD_of (t := fun e => rd_count_up_to A e) F sc_count_up_to rfl len_count_up_to (fun cdv A0 outer s H E O e C tk ow => ((dss_one (ds_ret (de_callB call_len cd_len rfl T.z_len PySem.boot_len (da_cons (de_lc rfl sc_count_up_to.nd (di_sq (dv 0)) (blkOk_by (show blkC sc_N_count_up_to (defScope s_count_up_to) _ [("barrier", 2)] = true from by decide +kernel)) (by decide) (fun _ _ _ _ _ => (dg_name (i := 2) sc_count_up_to.nd rfl (Or.inl rfl))) (fun _ _ _ _ _ => (dts_one (dt_cmp op_leX od_leX (dv 2) (dv 1) (nomark _)))) (fun _ _ _ _ _ => (dv 2)) (own := [("barrier", 2)])) da_nil)))))) ok_count_up_to
theorem dh_count_up_to {P : Program} {w : World} {K : PySem.W.Frag} {mg : Str → Option Value} {base : Heap} {A : Cls} {fI f : Addr} {fd : FuncData} (T : Glob w K mg A fI) (F : Fun K "count_up_to" "count_up_to" s_count_up_to f fd) (hm : mg "count_up_to" = some (.ref f)) : Fd P w K mg base "count_up_to" 1 ["barriers", "statement"] (c_count_up_to A) := by
  exact ⟨_, _, (fd_count_up_to T F), hm, F.kp, F.binds fun _ _ _ _ _ _ us hl => match us, hl with | [_, _], _ => rfl⟩
abbrev sc_N_check_lanes : List Str := ["lanes"]
theorem sc_check_lanes : FnScope ["lanes"] ["lanes"] (defScope s_check_lanes) := ⟨rfl, rfl, rfl, by decide +kernel, rfl, by decide +kernel, by decide +kernel⟩
theorem fd_check_lanes {P : Program} {w : World} {K : PySem.W.Frag} {mg : Str → Option Value} {base : Heap} {A : Cls} {fI f : Addr} {fd : FuncData} (T : Glob w K mg A fI) (F : Fun K "check_lanes" "check_lanes" s_check_lanes f fd) : FnG P w K mg base 1 f fd ["lanes"] (LSp K (c_check_lanes A)) :=
  fnD_of (t := fun e => rd_check_lanes A e) F sc_check_lanes rfl len_check_lanes (fun cdv A0 outer s H E O e C tk ow => ((dss_one (ds_if (dt_cmp op_lt od_lt (dv 0) de_int (nomark _)) (dss_one (ds_raise rfl T.e_InvalidLanes C.room tk (dv 0))) dss_nil)))) ok_check_lanes
theorem dh_check_lanes {P : Program} {w : World} {K : PySem.W.Frag} {mg : Str → Option Value} {base : Heap} {A : Cls} {fI f : Addr} {fd : FuncData} (T : Glob w K mg A fI) (F : Fun K "check_lanes" "check_lanes" s_check_lanes f fd) (hm : mg "check_lanes" = some (.ref f)) : Fd P w K mg base "check_lanes" 1 ["lanes"] (c_check_lanes A) := by
  exact ⟨_, _, (fd_check_lanes T F), hm, F.kp, F.binds fun _ _ _ _ _ _ us hl => match us, hl with | [_], _ => rfl⟩
abbrev sc_N_check_statement : List Str := ["statement", "number", "lanes"]
theorem sc_check_statement : FnScope ["statement", "number", "lanes"] ["statement", "number", "lanes"] (defScope s_check_statement) := ⟨rfl, rfl, rfl, by decide +kernel, rfl, by decide +kernel, by decide +kernel⟩
theorem fd_check_statement {P : Program} {w : World} {K : PySem.W.Frag} {mg : Str → Option Value} {base : Heap} {A : Cls} {fI f : Addr} {fd : FuncData} (T : Glob w K mg A fI) (h_is_statement : Fd P w K mg base "is_statement" 2 ["statement", "lanes"] (c_is_statement A)) (F : Fun K "check_statement" "check_statement" s_check_statement f fd) : FnG P w K mg base 3 f fd ["statement", "number", "lanes"] (LSp K (c_check_statement A)) :=
  fnD_of (t := fun e => rd_check_statement A (c_is_statement A) e) F sc_check_statement rfl len_check_statement (fun cdv A0 outer s H E O e C tk ow => ((dss_one (ds_if (dt_not (dt_truth (de_callF h_is_statement (C.room.mono (by decide)) C.gd C.px rfl (da_cons (dv 0) (da_cons (dv 2) da_nil))))) (dss_one (ds_raise rfl T.e_InvalidStatement C.room tk (dv 1))) dss_nil)))) ok_check_statement
theorem dh_check_statement {P : Program} {w : World} {K : PySem.W.Frag} {mg : Str → Option Value} {base : Heap} {A : Cls} {fI f : Addr} {fd : FuncData} (T : Glob w K mg A fI) (h_is_statement : Fd P w K mg base "is_statement" 2 ["statement", "lanes"] (c_is_statement A)) (F : Fun K "check_statement" "check_statement" s_check_statement f fd) (hm : mg "check_statement" = some (.ref f)) : Fd P w K mg base "check_statement" 3 ["statement", "number", "lanes"] (c_check_statement A) := by
  exact ⟨_, _, (fd_check_statement T h_is_statement F), hm, F.kp, F.binds fun _ _ _ _ _ _ us hl => match us, hl with | [_, _, _], _ => rfl⟩
abbrev sc_N_check_barriers : List Str := ["barriers", "many", "before", "number", "barrier"]
theorem sc_check_barriers : FnScope ["barriers", "many", "before", "number", "barrier"] ["barriers", "many"] (defScope s_check_barriers) := ⟨rfl, rfl, rfl, by decide +kernel, rfl, by decide +kernel, by decide +kernel⟩
theorem fd_check_barriers {P : Program} {w : World} {K : PySem.W.Frag} {mg : Str → Option Value} {base : Heap} {A : Cls} {fI f : Addr} {fd : FuncData} (T : Glob w K mg A fI) (F : Fun K "check_barriers" "check_barriers" s_check_barriers f fd) : FnG P w K mg base 1 f fd ["barriers", "many"] (LSp K (c_check_barriers A)) :=
  fnD_of (t := fun e => rd_check_barriers A e) F sc_check_barriers rfl len_check_barriers (fun cdv A0 outer s H E O e C tk ow => ((dss_cons (ds_asg de_int (dg_name (i := 2) sc_check_barriers.nd rfl (Or.inl rfl)))
    (dss_one (ds_for ow rfl (di_enX rfl T.z_enumerate (da_cons (dv 0) da_nil)) (dg_tup rfl (dgs_cons (dg_name (i := 3) sc_check_barriers.nd rfl (Or.inl rfl)) (dgs_cons (dg_name (i := 4) sc_check_barriers.nd rfl (Or.inl rfl)) dgs_nil))) (dss_cons (ds_if (PW.pt (dw_or (dt_cmp op_leX od_leX (dv 4) (dv 2) (nomark _)) (dw_or1 (dt_cmp op_ge od_ge (dv 4) (dv 1) (nomark _))))) (dss_one (ds_raise rfl T.e_InvalidBarrier C.room tk (dv 3))) dss_nil)
    (dss_one (ds_asg (dv 4) (dg_name (i := 2) sc_check_barriers.nd rfl (Or.inl rfl)))))))))) ok_check_barriers
theorem dh_check_barriers {P : Program} {w : World} {K : PySem.W.Frag} {mg : Str → Option Value} {base : Heap} {A : Cls} {fI f : Addr} {fd : FuncData} (T : Glob w K mg A fI) (F : Fun K "check_barriers" "check_barriers" s_check_barriers f fd) (hm : mg "check_barriers" = some (.ref f)) : Fd P w K mg base "check_barriers" 1 ["barriers", "many"] (c_check_barriers A) := by
  exact ⟨_, _, (fd_check_barriers T F), hm, F.kp, F.binds fun _ _ _ _ _ _ us hl => match us, hl with | [_, _], _ => rfl⟩
abbrev sc_N_Kernel___init__ : List Str := ["self", "lanes", "statements", "barriers", "number", "statement"]
theorem sc_Kernel___init__ : FnScope ["self", "lanes", "statements", "barriers", "number", "statement"] ["self", "lanes", "statements", "barriers"] (defScope s_Kernel___init__) := ⟨rfl, rfl, rfl, by decide +kernel, rfl, by decide +kernel, by decide +kernel⟩
theorem fd_Kernel___init__ {P : Program} {w : World} {K : PySem.W.Frag} {mg : Str → Option Value} {base : Heap} {A : Cls} {fI f : Addr} {fd : FuncData} (T : Glob w K mg A fI) {E_Kernel___init__ : Addr} (h_check_barriers : Fd P w K mg base "check_barriers" 1 ["barriers", "many"] (c_check_barriers A)) (h_check_lanes : Fd P w K mg base "check_lanes" 1 ["lanes"] (c_check_lanes A)) (h_check_statement : Fd P w K mg base "check_statement" 3 ["statement", "number", "lanes"] (c_check_statement A)) (F : FunD K "__init__" "Kernel.__init__" (defArgs s_Kernel___init__) (defBody s_Kernel___init__) (defScope s_Kernel___init__) [.ref E_Kernel___init__] [] f fd) : FnG P w K mg base 4 f fd ["self", "lanes", "statements", "barriers"] (LSp K (c_Kernel___init__ A)) :=
  fnD_ofD (t := fun e => rd_Kernel___init__ A (c_check_barriers A) (c_check_lanes A) (c_check_statement A) e) F sc_Kernel___init__ rfl len_Kernel___init__ (fun cdv A0 outer s H E O e C tk ow => ((dss_cons (ds_expr (de_callF h_check_lanes (C.room.mono (by decide)) C.gd C.px rfl (da_cons (dv 1) da_nil)))
    (dss_cons (ds_for ow rfl (di_enX rfl T.z_enumerate (da_cons (dv 2) da_nil)) (dg_tup rfl (dgs_cons (dg_name (i := 4) sc_Kernel___init__.nd rfl (Or.inl rfl)) (dgs_cons (dg_name (i := 5) sc_Kernel___init__.nd rfl (Or.inl rfl)) dgs_nil))) (dss_one (ds_expr (de_callF h_check_statement (C.room.mono (by decide)) C.gd C.px rfl (da_cons (dv 5) (da_cons (dv 4) (da_cons (dv 1) da_nil)))))))
    (dss_cons (ds_expr (de_callF h_check_barriers (C.room.mono (by decide)) C.gd C.px rfl (da_cons (dv 3) (da_cons (de_callB call_len cd_len rfl T.z_len PySem.boot_len (da_cons (dv 2) da_nil)) da_nil))))
    (dss_cons (ds_fld T.k_Kernel T.a_Kernel__lanes (dv 0) (dv 1))
    (dss_cons (ds_fld T.k_Kernel T.a_Kernel__statements (dv 0) (de_callTy call_list_of cd_list rfl T.z_list (by decide +kernel) (da_cons (dv 2) da_nil)))
    (dss_cons (ds_fld T.k_Kernel T.a_Kernel__barriers (dv 0) (de_callTy call_list_of cd_list rfl T.z_list (by decide +kernel) (da_cons (dv 3) da_nil)))
    (dss_one (ds_fld T.k_Kernel T.a_Kernel__racing (dv 0) de_non)))))))))) ok_Kernel___init__
theorem dhi_Kernel_0 {P : Program} {w : World} {K : PySem.W.Frag} {mg : Str → Option Value} {base : Heap} {A : Cls} {fI f : Addr} {fd : FuncData} (T : Glob w K mg A fI) {E_Kernel___init__ : Addr} (h_check_barriers : Fd P w K mg base "check_barriers" 1 ["barriers", "many"] (c_check_barriers A)) (h_check_lanes : Fd P w K mg base "check_lanes" 1 ["lanes"] (c_check_lanes A)) (h_check_statement : Fd P w K mg base "check_statement" 3 ["statement", "number", "lanes"] (c_check_statement A)) (F : FunD K "__init__" "Kernel.__init__" (defArgs s_Kernel___init__) (defBody s_Kernel___init__) (defScope s_Kernel___init__) [.ref E_Kernel___init__] [] f fd) (M : Mk K A.Kernel f) (hm : mg "Kernel" = some (.ref A.Kernel)) : Im P w K mg base "Kernel" A.Kernel 4 ["self", "lanes", "statements", "barriers"] (c_Kernel___init__ A) [] := by
  obtain ⟨ds, hv, hb⟩ := F.binds1 (ps := ["self", "lanes", "statements", "barriers"]) 4 1 (by simp) rfl (fun T kV doc pm an cdv ct us its h1 h2 => match us, its, h1, h2 with | [_, _, _, _], [_], _, _ => ⟨_, rfl, rfl⟩)
  cases hv
  exact ⟨_, _, [], [], (fd_Kernel___init__ T h_check_barriers h_check_lanes h_check_statement F), M, hm, hb, .nil, fun _ _ => RepL.nil⟩
theorem dhI_Kernel_0 {P : Program} {w : World} {K : PySem.W.Frag} {mg : Str → Option Value} {base : Heap} {A : Cls} {fI f : Addr} {fd : FuncData} (T : Glob w K mg A fI) {E_Kernel___init__ : Addr} (h_check_barriers : Fd P w K mg base "check_barriers" 1 ["barriers", "many"] (c_check_barriers A)) (h_check_lanes : Fd P w K mg base "check_lanes" 1 ["lanes"] (c_check_lanes A)) (h_check_statement : Fd P w K mg base "check_statement" 3 ["statement", "number", "lanes"] (c_check_statement A)) (F : FunD K "__init__" "Kernel.__init__" (defArgs s_Kernel___init__) (defBody s_Kernel___init__) (defScope s_Kernel___init__) [.ref E_Kernel___init__] [] f fd) (M : Mk K A.Kernel f) (hm : mg "Kernel" = some (.ref A.Kernel)) (hr : ∀ F H, RepL K F H [.tup []] [.ref E_Kernel___init__]) : ImK P w K mg base "Kernel" A.Kernel 4 ["self", "lanes", "statements", "barriers"] (c_Kernel___init__ A) ["barriers", "statements", "lanes"] [2, 1, 0] [.tup []] := by
  obtain ⟨its, hv, hb⟩ := kwx_ofD (n := 1) (ks := ["barriers", "statements", "lanes"]) (perm := [2, 1, 0]) (ps := ["self", "lanes", "statements", "barriers"]) F (by simp) (fun T kV doc pm an cdv ct us ws its h1 h2 h3 => match us, ws, its, h1, h2, h3 with | [_], [_, _, _], [_], _, _, _ => ⟨_, rfl, rfl⟩)
  exact ⟨_, _, its, _, (fd_Kernel___init__ T h_check_barriers h_check_lanes h_check_statement F), M, hm, hb, hv, hr⟩
theorem dhi_Kernel_1 {P : Program} {w : World} {K : PySem.W.Frag} {mg : Str → Option Value} {base : Heap} {A : Cls} {fI f : Addr} {fd : FuncData} (T : Glob w K mg A fI) {E_Kernel___init__ : Addr} (h_check_barriers : Fd P w K mg base "check_barriers" 1 ["barriers", "many"] (c_check_barriers A)) (h_check_lanes : Fd P w K mg base "check_lanes" 1 ["lanes"] (c_check_lanes A)) (h_check_statement : Fd P w K mg base "check_statement" 3 ["statement", "number", "lanes"] (c_check_statement A)) (F : FunD K "__init__" "Kernel.__init__" (defArgs s_Kernel___init__) (defBody s_Kernel___init__) (defScope s_Kernel___init__) [.ref E_Kernel___init__] [] f fd) (M : Mk K A.Kernel f) (hm : mg "Kernel" = some (.ref A.Kernel)) (hr : ∀ F H, RepL K F H [.tup []] [.ref E_Kernel___init__]) : Im P w K mg base "Kernel" A.Kernel 4 ["self", "lanes", "statements", "barriers"] (c_Kernel___init__ A) [.tup []] := by
  obtain ⟨ds, hv, hb⟩ := F.binds1 (ps := ["self", "lanes", "statements", "barriers"]) 3 0 (by simp) rfl (fun T kV doc pm an cdv ct us its h1 h2 => match us, its, h1, h2 with | [_, _, _], [_], _, _ => ⟨_, rfl, rfl⟩)
  exact ⟨_, _, ds, _, (fd_Kernel___init__ T h_check_barriers h_check_lanes h_check_statement F), M, hm, hb, hv, hr⟩
theorem dhI_Kernel_1 {P : Program} {w : World} {K : PySem.W.Frag} {mg : Str → Option Value} {base : Heap} {A : Cls} {fI f : Addr} {fd : FuncData} (T : Glob w K mg A fI) {E_Kernel___init__ : Addr} (h_check_barriers : Fd P w K mg base "check_barriers" 1 ["barriers", "many"] (c_check_barriers A)) (h_check_lanes : Fd P w K mg base "check_lanes" 1 ["lanes"] (c_check_lanes A)) (h_check_statement : Fd P w K mg base "check_statement" 3 ["statement", "number", "lanes"] (c_check_statement A)) (F : FunD K "__init__" "Kernel.__init__" (defArgs s_Kernel___init__) (defBody s_Kernel___init__) (defScope s_Kernel___init__) [.ref E_Kernel___init__] [] f fd) (M : Mk K A.Kernel f) (hm : mg "Kernel" = some (.ref A.Kernel)) (hr : ∀ F H, RepL K F H [.tup []] [.ref E_Kernel___init__]) : ImK P w K mg base "Kernel" A.Kernel 4 ["self", "lanes", "statements", "barriers"] (c_Kernel___init__ A) ["lanes", "statements"] [0, 1, 2] [.tup []] := by
  obtain ⟨its, hv, hb⟩ := kwx_ofD (n := 1) (ks := ["lanes", "statements"]) (perm := [0, 1, 2]) (ps := ["self", "lanes", "statements", "barriers"]) F (by simp) (fun T kV doc pm an cdv ct us ws its h1 h2 h3 => match us, ws, its, h1, h2, h3 with | [_], [_, _], [_], _, _, _ => ⟨_, rfl, rfl⟩)
  exact ⟨_, _, its, _, (fd_Kernel___init__ T h_check_barriers h_check_lanes h_check_statement F), M, hm, hb, hv, hr⟩
abbrev sc_N_Kernel_lanes : List Str := ["self"]
theorem sc_Kernel_lanes : FnScope ["self"] ["self"] (defScope s_Kernel_lanes) := ⟨rfl, rfl, rfl, by decide +kernel, rfl, by decide +kernel, by decide +kernel⟩
theorem fd_Kernel_lanes {P : Program} {w : World} {K : PySem.W.Frag} {mg : Str → Option Value} {base : Heap} {A : Cls} {fI f : Addr} {fd : FuncData} (T : Glob w K mg A fI) (F : Fun K "lanes" "Kernel.lanes" s_Kernel_lanes f fd) : FnG P w K mg base 1 f fd ["self"] (LSp K (c_Kernel_lanes A)) :=
  fnD_of (t := fun e => rd_Kernel_lanes A e) F sc_Kernel_lanes rfl len_Kernel_lanes (fun cdv A0 outer s H E O e C tk ow => ((dss_one (ds_ret (de_fld T.k_Kernel T.a_Kernel__lanes (dv 0)))))) ok_Kernel_lanes
theorem dhq_Kernel_lanes {P : Program} {w : World} {K : PySem.W.Frag} {mg : Str → Option Value} {base : Heap} {A : Cls} {fI f : Addr} {fd : FuncData} (T : Glob w K mg A fI) (F : Fun K "lanes" "Kernel.lanes" s_Kernel_lanes f fd) {pr : Addr} (hp : PropOf K A.Kernel "lanes" pr f) : Pp P w K mg base A.Kernel "lanes" 1 ["self"] (c_Kernel_lanes A) := by
  exact ⟨_, _, _, hp, (fd_Kernel_lanes T F), F.binds fun _ _ _ _ _ _ us hl => match us, hl with | [_], _ => rfl⟩
abbrev sc_N_Kernel_statements : List Str := ["self"]
theorem sc_Kernel_statements : FnScope ["self"] ["self"] (defScope s_Kernel_statements) := ⟨rfl, rfl, rfl, by decide +kernel, rfl, by decide +kernel, by decide +kernel⟩
theorem fd_Kernel_statements {P : Program} {w : World} {K : PySem.W.Frag} {mg : Str → Option Value} {base : Heap} {A : Cls} {fI f : Addr} {fd : FuncData} (T : Glob w K mg A fI) (F : Fun K "statements" "Kernel.statements" s_Kernel_statements f fd) : FnG P w K mg base 1 f fd ["self"] (LSp K (c_Kernel_statements A)) :=
  fnD_of (t := fun e => rd_Kernel_statements A e) F sc_Kernel_statements rfl len_Kernel_statements (fun cdv A0 outer s H E O e C tk ow => ((dss_one (ds_ret (de_ei (de_callTy call_list_of cd_list rfl T.z_list (by decide +kernel) (da_cons (de_fld T.k_Kernel T.a_Kernel__statements (dv 0)) da_nil)) (de_callTy call_list_of cd_listM rfl T.z_list (by decide +kernel) (da_cons (de_fld T.k_Kernel T.a_Kernel__statements (dv 0)) da_nil))))))) ok_Kernel_statements
theorem dhq_Kernel_statements {P : Program} {w : World} {K : PySem.W.Frag} {mg : Str → Option Value} {base : Heap} {A : Cls} {fI f : Addr} {fd : FuncData} (T : Glob w K mg A fI) (F : Fun K "statements" "Kernel.statements" s_Kernel_statements f fd) {pr : Addr} (hp : PropOf K A.Kernel "statements" pr f) : Pp P w K mg base A.Kernel "statements" 1 ["self"] (c_Kernel_statements A) := by
  exact ⟨_, _, _, hp, (fd_Kernel_statements T F), F.binds fun _ _ _ _ _ _ us hl => match us, hl with | [_], _ => rfl⟩
abbrev sc_N_Kernel_barriers : List Str := ["self"]
theorem sc_Kernel_barriers : FnScope ["self"] ["self"] (defScope s_Kernel_barriers) := ⟨rfl, rfl, rfl, by decide +kernel, rfl, by decide +kernel, by decide +kernel⟩
theorem fd_Kernel_barriers {P : Program} {w : World} {K : PySem.W.Frag} {mg : Str → Option Value} {base : Heap} {A : Cls} {fI f : Addr} {fd : FuncData} (T : Glob w K mg A fI) (F : Fun K "barriers" "Kernel.barriers" s_Kernel_barriers f fd) : FnG P w K mg base 1 f fd ["self"] (LSp K (c_Kernel_barriers A)) :=
  fnD_of (t := fun e => rd_Kernel_barriers A e) F sc_Kernel_barriers rfl len_Kernel_barriers (fun cdv A0 outer s H E O e C tk ow => ((dss_one (ds_ret (de_ei (de_callTy call_list_of cd_list rfl T.z_list (by decide +kernel) (da_cons (de_fld T.k_Kernel T.a_Kernel__barriers (dv 0)) da_nil)) (de_callTy call_list_of cd_listM rfl T.z_list (by decide +kernel) (da_cons (de_fld T.k_Kernel T.a_Kernel__barriers (dv 0)) da_nil))))))) ok_Kernel_barriers
theorem dhq_Kernel_barriers {P : Program} {w : World} {K : PySem.W.Frag} {mg : Str → Option Value} {base : Heap} {A : Cls} {fI f : Addr} {fd : FuncData} (T : Glob w K mg A fI) (F : Fun K "barriers" "Kernel.barriers" s_Kernel_barriers f fd) {pr : Addr} (hp : PropOf K A.Kernel "barriers" pr f) : Pp P w K mg base A.Kernel "barriers" 1 ["self"] (c_Kernel_barriers A) := by
  exact ⟨_, _, _, hp, (fd_Kernel_barriers T F), F.binds fun _ _ _ _ _ _ us hl => match us, hl with | [_], _ => rfl⟩
abbrev sc_N_Kernel___len__ : List Str := ["self"]
theorem sc_Kernel___len__ : FnScope ["self"] ["self"] (defScope s_Kernel___len__) := ⟨rfl, rfl, rfl, by decide +kernel, rfl, by decide +kernel, by decide +kernel⟩
theorem fd_Kernel___len__ {P : Program} {w : World} {K : PySem.W.Frag} {mg : Str → Option Value} {base : Heap} {A : Cls} {fI f : Addr} {fd : FuncData} (T : Glob w K mg A fI) (F : Fun K "__len__" "Kernel.__len__" s_Kernel___len__ f fd) : FnG P w K mg base 1 f fd ["self"] (LSp K (c_Kernel___len__ A)) :=
  fnD_of (t := fun e => rd_Kernel___len__ A e) F sc_Kernel___len__ rfl len_Kernel___len__ (fun cdv A0 outer s H E O e C tk ow => ((dss_one (ds_ret (de_callB call_len cd_len rfl T.z_len PySem.boot_len (da_cons (de_fld T.k_Kernel T.a_Kernel__statements (dv 0)) da_nil)))))) ok_Kernel___len__
theorem dhm_Kernel___len__ {P : Program} {w : World} {K : PySem.W.Frag} {mg : Str → Option Value} {base : Heap} {A : Cls} {fI f : Addr} {fd : FuncData} (T : Glob w K mg A fI) (F : Fun K "__len__" "Kernel.__len__" s_Kernel___len__ f fd) (hp : Meth K A.Kernel "__len__" f) : Mm P w K mg base A.Kernel "__len__" 1 ["self"] (c_Kernel___len__ A) := by
  exact ⟨_, _, hp, (fd_Kernel___len__ T F), F.binds fun _ _ _ _ _ _ us hl => match us, hl with | [_], _ => rfl⟩
abbrev sc_N_Kernel___eq__ : List Str := ["self", "other"]
theorem sc_Kernel___eq__ : FnScope ["self", "other"] ["self", "other"] (defScope s_Kernel___eq__) := ⟨rfl, rfl, rfl, by decide +kernel, rfl, by decide +kernel, by decide +kernel⟩
theorem fd_Kernel___eq__ {P : Program} {w : World} {K : PySem.W.Frag} {mg : Str → Option Value} {base : Heap} {A : Cls} {fI f : Addr} {fd : FuncData} (T : Glob w K mg A fI) (F : Fun K "__eq__" "Kernel.__eq__" s_Kernel___eq__ f fd) : FnG P w K mg base 1 f fd ["self", "other"] (LSp K (c_Kernel___eq__ A)) :=
  fnD_of (t := fun e => rd_Kernel___eq__ A e) F sc_Kernel___eq__ rfl len_Kernel___eq__ (fun cdv A0 outer s H E O e C tk ow => ((dss_one (ds_ret (de_andT (de_callB (call_isOr (C8.call_isC T.ii_Kernel)) (cd_isAny T.kc_Kernel T.kt_Kernel) rfl T.z_isinstance (by decide +kernel) (da_cons (dv 1) (da_cons (de_cls rfl T.n_Kernel) da_nil))) (de_andT (de_cmp (op_eqA C.room.units) od_eqA (de_fld T.k_Kernel T.a_Kernel__lanes (dv 0)) (de_fld T.k_Kernel T.a_Kernel__lanes (dv 1)) (nomark _)) (de_andT (de_cmp (op_eqA C.room.units) od_eqA (de_fld T.k_Kernel T.a_Kernel__statements (dv 0)) (de_fld T.k_Kernel T.a_Kernel__statements (dv 1)) (nomark _)) (de_one (de_cmp (op_eqA C.room.units) od_eqA (de_fld T.k_Kernel T.a_Kernel__barriers (dv 0)) (de_fld T.k_Kernel T.a_Kernel__barriers (dv 1)) (nomark _)))))))))) ok_Kernel___eq__
theorem dhm_Kernel___eq__ {P : Program} {w : World} {K : PySem.W.Frag} {mg : Str → Option Value} {base : Heap} {A : Cls} {fI f : Addr} {fd : FuncData} (T : Glob w K mg A fI) (F : Fun K "__eq__" "Kernel.__eq__" s_Kernel___eq__ f fd) (hp : Meth K A.Kernel "__eq__" f) : Mm P w K mg base A.Kernel "__eq__" 1 ["self", "other"] (c_Kernel___eq__ A) := by
  exact ⟨_, _, hp, (fd_Kernel___eq__ T F), F.binds fun _ _ _ _ _ _ us hl => match us, hl with | [_, _], _ => rfl⟩
abbrev sc_N_Kernel___add__ : List Str := ["self", "other", "many", "between", "behind", "barrier"]
theorem sc_Kernel___add__ : FnScope ["self", "other", "many", "between", "behind", "barrier"] ["self", "other"] (defScope s_Kernel___add__) := ⟨rfl, rfl, rfl, by decide +kernel, rfl, by decide +kernel, by decide +kernel⟩
theorem fd_Kernel___add__ {P : Program} {w : World} {K : PySem.W.Frag} {mg : Str → Option Value} {base : Heap} {A : Cls} {fI f : Addr} {fd : FuncData} (T : Glob w K mg A fI) (hi_Kernel_0 : Im P w K mg base "Kernel" A.Kernel 4 ["self", "lanes", "statements", "barriers"] (c_Kernel___init__ A) []) (F : Fun K "__add__" "Kernel.__add__" s_Kernel___add__ f fd) : FnG P w K mg base 6 f fd ["self", "other"] (LSp K (c_Kernel___add__ A)) :=
  fnD_of (t := fun e => rd_Kernel___add__ A (c_Kernel___init__ A) e) F sc_Kernel___add__ rfl len_Kernel___add__ (fun cdv A0 outer s H E O e C tk ow => ((dss_cons (ds_if (dt_cmp (op_neA C.room.units) od_neA (de_fld T.k_Kernel T.a_Kernel__lanes (dv 0)) (de_fld T.k_Kernel T.a_Kernel__lanes (dv 1)) (nomark _)) (dss_one (ds_raise rfl T.e_UnlikeLanes C.room tk de_non)) dss_nil)
    (dss_cons (ds_asg (de_callB call_len cd_len rfl T.z_len PySem.boot_len (da_cons (de_fld T.k_Kernel T.a_Kernel__statements (dv 0)) da_nil)) (dg_name (i := 2) sc_Kernel___add__.nd rfl (Or.inr rfl)))
    (dss_cons (ds_asg (de_if (PW.pt (dw_and (dt_cmp op_gt od_gt (dv 2) de_int (nomark _)) (dw_and1 (dt_cmp op_gt od_gt (de_callB call_len cd_len rfl T.z_len PySem.boot_len (da_cons (de_fld T.k_Kernel T.a_Kernel__statements (dv 1)) da_nil)) de_int (nomark _))))) (de_lst (da_cons (dv 2) da_nil)) (de_lst da_nil)) (dg_name (i := 3) sc_Kernel___add__.nd rfl (Or.inl rfl)))
    (dss_cons (ds_setLc (i := 4) rfl sc_Kernel___add__.nd rfl rfl (sw_true rfl rfl rfl (by decide +kernel)) (di_sq (de_fld T.k_Kernel T.a_Kernel__barriers (dv 1))) (blkOk_by (show blkC sc_N_Kernel___add__ (defScope s_Kernel___add__) _ [("barrier", 5)] = true from by decide +kernel)) (by decide) (fun _ _ _ _ _ => (dg_name (i := 5) sc_Kernel___add__.nd rfl (Or.inl rfl))) (fun _ _ _ _ _ => dts_nil) (fun _ _ _ _ _ => (de_add (dv 2) (dv 5))) (own := [("barrier", 5)]))
    (dss_one (ds_ret (de_makeI (x := "Kernel") hi_Kernel_0 (C.room.mono (by decide)) C.gd C.px rfl (da_cons (de_fld T.k_Kernel T.a_Kernel__lanes (dv 0)) (da_cons (de_add (de_fld T.k_Kernel T.a_Kernel__statements (dv 0)) (de_fld T.k_Kernel T.a_Kernel__statements (dv 1))) (da_cons (de_add (de_add (de_fld T.k_Kernel T.a_Kernel__barriers (dv 0)) (dv 3)) (dv 4)) da_nil)))))))))))) ok_Kernel___add__
theorem dhm_Kernel___add__ {P : Program} {w : World} {K : PySem.W.Frag} {mg : Str → Option Value} {base : Heap} {A : Cls} {fI f : Addr} {fd : FuncData} (T : Glob w K mg A fI) (hi_Kernel_0 : Im P w K mg base "Kernel" A.Kernel 4 ["self", "lanes", "statements", "barriers"] (c_Kernel___init__ A) []) (F : Fun K "__add__" "Kernel.__add__" s_Kernel___add__ f fd) (hp : Meth K A.Kernel "__add__" f) : Mm P w K mg base A.Kernel "__add__" 6 ["self", "other"] (c_Kernel___add__ A) := by
  exact ⟨_, _, hp, (fd_Kernel___add__ T hi_Kernel_0 F), F.binds fun _ _ _ _ _ _ us hl => match us, hl with | [_, _], _ => rfl⟩
abbrev sc_N_Kernel_with_barriers : List Str := ["self", "barriers"]
theorem sc_Kernel_with_barriers : FnScope ["self", "barriers"] ["self", "barriers"] (defScope s_Kernel_with_barriers) := ⟨rfl, rfl, rfl, by decide +kernel, rfl, by decide +kernel, by decide +kernel⟩
theorem fd_Kernel_with_barriers {P : Program} {w : World} {K : PySem.W.Frag} {mg : Str → Option Value} {base : Heap} {A : Cls} {fI f : Addr} {fd : FuncData} (T : Glob w K mg A fI) (hi_Kernel_0 : Im P w K mg base "Kernel" A.Kernel 4 ["self", "lanes", "statements", "barriers"] (c_Kernel___init__ A) []) (F : Fun K "with_barriers" "Kernel.with_barriers" s_Kernel_with_barriers f fd) : FnG P w K mg base 6 f fd ["self", "barriers"] (LSp K (c_Kernel_with_barriers A)) :=
  fnD_of (t := fun e => rd_Kernel_with_barriers A (c_Kernel___init__ A) e) F sc_Kernel_with_barriers rfl len_Kernel_with_barriers (fun cdv A0 outer s H E O e C tk ow => ((dss_one (ds_ret (de_makeI (x := "Kernel") hi_Kernel_0 (C.room.mono (by decide)) C.gd C.px rfl (da_cons (de_fld T.k_Kernel T.a_Kernel__lanes (dv 0)) (da_cons (de_fld T.k_Kernel T.a_Kernel__statements (dv 0)) (da_cons (dv 1) da_nil)))))))) ok_Kernel_with_barriers
theorem dhm_Kernel_with_barriers {P : Program} {w : World} {K : PySem.W.Frag} {mg : Str → Option Value} {base : Heap} {A : Cls} {fI f : Addr} {fd : FuncData} (T : Glob w K mg A fI) (hi_Kernel_0 : Im P w K mg base "Kernel" A.Kernel 4 ["self", "lanes", "statements", "barriers"] (c_Kernel___init__ A) []) (F : Fun K "with_barriers" "Kernel.with_barriers" s_Kernel_with_barriers f fd) (hp : Meth K A.Kernel "with_barriers" f) : Mm P w K mg base A.Kernel "with_barriers" 6 ["self", "barriers"] (c_Kernel_with_barriers A) := by
  exact ⟨_, _, hp, (fd_Kernel_with_barriers T hi_Kernel_0 F), F.binds fun _ _ _ _ _ _ us hl => match us, hl with | [_, _], _ => rfl⟩
theorem dhM_with_barriers_0 {P : Program} {w : World} {K : PySem.W.Frag} {mg : Str → Option Value} {base : Heap} {A : Cls} {fI f : Addr} {fd : FuncData} (T : Glob w K mg A fI) (hi_Kernel_0 : Im P w K mg base "Kernel" A.Kernel 4 ["self", "lanes", "statements", "barriers"] (c_Kernel___init__ A) []) (F : Fun K "with_barriers" "Kernel.with_barriers" s_Kernel_with_barriers f fd) (hp : Meth K A.Kernel "with_barriers" f) : MmK P w K mg base A.Kernel "with_barriers" 6 ["self", "barriers"] (c_Kernel_with_barriers A) ["barriers"] [0] [] := by
  exact ⟨_, _, [], [], hp, (fd_Kernel_with_barriers T hi_Kernel_0 F), kwx_of F fun _ _ _ _ _ _ us ws h1 h2 => (match us, ws, h1, h2 with | [_], [_], _, _ => rfl), .nil, fun _ _ => RepL.nil⟩
abbrev sc_N_accesses : List Str := ["kernel"]
theorem sc_accesses : FnScope ["kernel"] ["kernel"] (defScope s_accesses) := ⟨rfl, rfl, rfl, by decide +kernel, rfl, by decide +kernel, by decide +kernel⟩
theorem fd_accesses {P : Program} {w : World} {K : PySem.W.Frag} {mg : Str → Option Value} {base : Heap} {A : Cls} {fI f : Addr} {fd : FuncData} (T : Glob w K mg A fI) (h_accesses_of : Fd P w K mg base "accesses_of" 2 ["statements"] (c_accesses_of A)) (hq_Kernel_statements : Pp P w K mg base A.Kernel "statements" 1 ["self"] (c_Kernel_statements A)) (F : Fun K "accesses" "accesses" s_accesses f fd) : FnG P w K mg base 3 f fd ["kernel"] (LSp K (c_accesses A)) :=
  fnD_of (t := fun e => rd_accesses A (c_Kernel_statements A) (c_accesses_of A) e) F sc_accesses rfl len_accesses (fun cdv A0 outer s H E O e C tk ow => ((dss_one (ds_ret (de_callF h_accesses_of (C.room.mono (by decide)) C.gd C.px rfl (da_cons (de_propP T.k_Kernel hq_Kernel_statements (C.room.mono (by decide)) C.gd (dv 0)) da_nil)))))) ok_accesses
theorem dh_accesses {P : Program} {w : World} {K : PySem.W.Frag} {mg : Str → Option Value} {base : Heap} {A : Cls} {fI f : Addr} {fd : FuncData} (T : Glob w K mg A fI) (h_accesses_of : Fd P w K mg base "accesses_of" 2 ["statements"] (c_accesses_of A)) (hq_Kernel_statements : Pp P w K mg base A.Kernel "statements" 1 ["self"] (c_Kernel_statements A)) (F : Fun K "accesses" "accesses" s_accesses f fd) (hm : mg "accesses" = some (.ref f)) : Fd P w K mg base "accesses" 3 ["kernel"] (c_accesses A) := by
  exact ⟨_, _, (fd_accesses T h_accesses_of hq_Kernel_statements F), hm, F.kp, F.binds fun _ _ _ _ _ _ us hl => match us, hl with | [_], _ => rfl⟩
theorem dhk_accesses_0 {P : Program} {w : World} {K : PySem.W.Frag} {mg : Str → Option Value} {base : Heap} {A : Cls} {fI f : Addr} {fd : FuncData} (T : Glob w K mg A fI) (h_accesses_of : Fd P w K mg base "accesses_of" 2 ["statements"] (c_accesses_of A)) (hq_Kernel_statements : Pp P w K mg base A.Kernel "statements" 1 ["self"] (c_Kernel_statements A)) (F : Fun K "accesses" "accesses" s_accesses f fd) (hm : mg "accesses" = some (.ref f)) : FdX P w K mg base "accesses" 3 ["kernel"] (c_accesses A) ["kernel"] 0 [0] [] := by
  exact ⟨_, _, [], [], (fd_accesses T h_accesses_of hq_Kernel_statements F), hm, F.kp, kwx_of F fun _ _ _ _ _ _ us ws h1 h2 => (match us, ws, h1, h2 with | [], [_], _, _ => rfl), .nil, fun _ _ => RepL.nil⟩
abbrev sc_N_phase_of : List Str := ["kernel", "statement"]
theorem sc_phase_of : FnScope ["kernel", "statement"] ["kernel", "statement"] (defScope s_phase_of) := ⟨rfl, rfl, rfl, by decide +kernel, rfl, by decide +kernel, by decide +kernel⟩
theorem fd_phase_of {P : Program} {w : World} {K : PySem.W.Frag} {mg : Str → Option Value} {base : Heap} {A : Cls} {fI f : Addr} {fd : FuncData} (T : Glob w K mg A fI) (h_count_up_to : Fd P w K mg base "count_up_to" 1 ["barriers", "statement"] (c_count_up_to A)) (hm_Kernel___len__ : Mm P w K mg base A.Kernel "__len__" 1 ["self"] (c_Kernel___len__ A)) (hq_Kernel_barriers : Pp P w K mg base A.Kernel "barriers" 1 ["self"] (c_Kernel_barriers A)) (F : Fun K "phase_of" "phase_of" s_phase_of f fd) : FnG P w K mg base 3 f fd ["kernel", "statement"] (LSp K (c_phase_of A)) :=
  fnD_of (t := fun e => rd_phase_of A (c_Kernel___len__ A) (c_Kernel_barriers A) (c_count_up_to A) e) F sc_phase_of rfl len_phase_of (fun cdv A0 outer s H E O e C tk ow => ((dss_cons (ds_if (PW.pt (dw_or (dt_cmp op_lt od_lt (dv 1) de_int (nomark _)) (dw_or1 (dt_cmp op_ge od_ge (dv 1) (de_callB ((call_lenOwn hm_Kernel___len__ (C.room.mono (by decide)) C.gd).or call_len) cd_lenX rfl T.z_len PySem.boot_len (da_cons (dv 0) da_nil)) (nomark _))))) (dss_one (ds_raise rfl T.e_InvalidNumber C.room tk (dv 1))) dss_nil)
    (dss_one (ds_ret (de_callF h_count_up_to (C.room.mono (by decide)) C.gd C.px rfl (da_cons (de_propP T.k_Kernel hq_Kernel_barriers (C.room.mono (by decide)) C.gd (dv 0)) (da_cons (dv 1) da_nil)))))))) ok_phase_of
theorem dh_phase_of {P : Program} {w : World} {K : PySem.W.Frag} {mg : Str → Option Value} {base : Heap} {A : Cls} {fI f : Addr} {fd : FuncData} (T : Glob w K mg A fI) (h_count_up_to : Fd P w K mg base "count_up_to" 1 ["barriers", "statement"] (c_count_up_to A)) (hm_Kernel___len__ : Mm P w K mg base A.Kernel "__len__" 1 ["self"] (c_Kernel___len__ A)) (hq_Kernel_barriers : Pp P w K mg base A.Kernel "barriers" 1 ["self"] (c_Kernel_barriers A)) (F : Fun K "phase_of" "phase_of" s_phase_of f fd) (hm : mg "phase_of" = some (.ref f)) : Fd P w K mg base "phase_of" 3 ["kernel", "statement"] (c_phase_of A) := by
  exact ⟨_, _, (fd_phase_of T h_count_up_to hm_Kernel___len__ hq_Kernel_barriers F), hm, F.kp, F.binds fun _ _ _ _ _ _ us hl => match us, hl with | [_, _], _ => rfl⟩
theorem dhk_phase_of_1 {P : Program} {w : World} {K : PySem.W.Frag} {mg : Str → Option Value} {base : Heap} {A : Cls} {fI f : Addr} {fd : FuncData} (T : Glob w K mg A fI) (h_count_up_to : Fd P w K mg base "count_up_to" 1 ["barriers", "statement"] (c_count_up_to A)) (hm_Kernel___len__ : Mm P w K mg base A.Kernel "__len__" 1 ["self"] (c_Kernel___len__ A)) (hq_Kernel_barriers : Pp P w K mg base A.Kernel "barriers" 1 ["self"] (c_Kernel_barriers A)) (F : Fun K "phase_of" "phase_of" s_phase_of f fd) (hm : mg "phase_of" = some (.ref f)) : FdX P w K mg base "phase_of" 3 ["kernel", "statement"] (c_phase_of A) ["statement", "kernel"] 0 [1, 0] [] := by
  exact ⟨_, _, [], [], (fd_phase_of T h_count_up_to hm_Kernel___len__ hq_Kernel_barriers F), hm, F.kp, kwx_of F fun _ _ _ _ _ _ us ws h1 h2 => (match us, ws, h1, h2 with | [], [_, _], _, _ => rfl), .nil, fun _ _ => RepL.nil⟩
abbrev sc_N__law_source : List Str := ["script", "digits", "seed", "one"]
theorem sc__law_source : FnScope ["script", "digits", "seed", "one"] ["script"] (defScope s__law_source) := ⟨rfl, rfl, rfl, by decide +kernel, rfl, by decide +kernel, by decide +kernel⟩
theorem fd__law_source {P : Program} {w : World} {K : PySem.W.Frag} {mg : Str → Option Value} {base : Heap} {A : Cls} {fI f : Addr} {fd : FuncData} (T : Glob w K mg A fI) (F : Fun K "_law_source" "_law_source" s__law_source f fd) : FnG P w K mg base 1 f fd ["script"] (LSp K (c__law_source A)) :=
  fnD_of (t := fun e => rd__law_source A e) F sc__law_source rfl len__law_source (fun cdv A0 outer s H E O e C tk ow => ((dss_cons (ds_asg (de_tup (da_cons de_int (da_cons de_int da_nil))) (dg_tup rfl (dgs_cons (dg_name (i := 1) sc__law_source.nd rfl (Or.inl rfl)) (dgs_cons (dg_name (i := 2) sc__law_source.nd rfl (Or.inl rfl)) dgs_nil))))
    (dss_cons (ds_for ow rfl (di_sq (de_sl (dv 0) do_none (do_some de_int))) (dg_name (i := 3) sc__law_source.nd rfl (Or.inl rfl)) (dss_cons (ds_if (dt_cmp op_ge od_ge (de_callB call_abs cd_abs rfl T.z_abs (by decide +kernel) (da_cons (dv 3) da_nil)) (de_pow de_int de_int) (nomark _)) (dss_one (ds_asg (de_add (de_mul (dv 1) (de_pow de_int de_int)) (de_mod (de_callB call_abs cd_abs rfl T.z_abs (by decide +kernel) (da_cons (dv 3) da_nil)) (de_pow de_int de_int))) (dg_name (i := 1) sc__law_source.nd rfl (Or.inl rfl)))) dss_nil)
    (dss_one (ds_asg (de_mod (de_add (de_add (de_mul (dv 2) de_int) (de_mod (dv 3) de_int)) de_int) de_int) (dg_name (i := 2) sc__law_source.nd rfl (Or.inl rfl))))))
    (dss_one (ds_ret (de_lstM (da_cons (dv 1) (da_cons (dv 2) (da_cons de_int da_nil)))))))))) ok__law_source
theorem dh__law_source {P : Program} {w : World} {K : PySem.W.Frag} {mg : Str → Option Value} {base : Heap} {A : Cls} {fI f : Addr} {fd : FuncData} (T : Glob w K mg A fI) (F : Fun K "_law_source" "_law_source" s__law_source f fd) (hm : mg "_law_source" = some (.ref f)) : Fd P w K mg base "_law_source" 1 ["script"] (c__law_source A) := by
  exact ⟨_, _, (fd__law_source T F), hm, F.kp, F.binds fun _ _ _ _ _ _ us hl => match us, hl with | [_], _ => rfl⟩
abbrev sc_N__law_draw : List Str := ["source", "many", "drawn", "mixed"]
theorem sc__law_draw : FnScope ["source", "many", "drawn", "mixed"] ["source", "many"] (defScope s__law_draw) := ⟨rfl, rfl, rfl, by decide +kernel, rfl, by decide +kernel, by decide +kernel⟩
theorem fd__law_draw {P : Program} {w : World} {K : PySem.W.Frag} {mg : Str → Option Value} {base : Heap} {A : Cls} {fI f : Addr} {fd : FuncData} (T : Glob w K mg A fI) (F : Fun K "_law_draw" "_law_draw" s__law_draw f fd) : FnG P w K mg base 1 f fd ["source", "many"] (LSp K (c__law_draw A)) :=
  fnD_of (t := fun e => rd__law_draw A e) F sc__law_draw rfl len__law_draw (fun cdv A0 outer s H E O e C tk ow => ((dss_cons (ds_if (dt_cmp op_gt od_gt (de_ix (dv 0) de_int) de_int (nomark _)) (dss_cons (ds_asg (de_mod (de_ix (dv 0) de_int) (dv 1)) (dg_name (i := 2) sc__law_draw.nd rfl (Or.inl rfl)))
    (dss_cons (ds_asg (de_fdiv (de_ix (dv 0) de_int) (dv 1)) (dg_item (dv 0) de_int))
    (dss_one (ds_ret (dv 2))))) dss_nil)
    (dss_cons (ds_asg (de_add (de_ix (dv 0) de_int) de_int) (dg_item (dv 0) de_int))
    (dss_cons (ds_asg (de_mod (de_pow (de_add (de_ix (dv 0) de_int) (de_mul de_int (de_ix (dv 0) de_int))) de_int) de_int) (dg_name (i := 3) sc__law_draw.nd rfl (Or.inl rfl)))
    (dss_cons (ds_asg (de_mod (de_pow (de_add (dv 3) (de_mul de_int (de_ix (dv 0) de_int))) de_int) de_int) (dg_name (i := 3) sc__law_draw.nd rfl (Or.inl rfl)))
    (dss_one (ds_ret (de_mod (de_fdiv (dv 3) de_int) (dv 1)))))))))) ok__law_draw
theorem dh__law_draw {P : Program} {w : World} {K : PySem.W.Frag} {mg : Str → Option Value} {base : Heap} {A : Cls} {fI f : Addr} {fd : FuncData} (T : Glob w K mg A fI) (F : Fun K "_law_draw" "_law_draw" s__law_draw f fd) (hm : mg "_law_draw" = some (.ref f)) : Fd P w K mg base "_law_draw" 1 ["source", "many"] (c__law_draw A) := by
  exact ⟨_, _, (fd__law_draw T F), hm, F.kp, F.binds fun _ _ _ _ _ _ us hl => match us, hl with | [_, _], _ => rfl⟩
abbrev sc_N__law_same : List Str := ["told", "due"]
theorem sc__law_same : FnScope ["told", "due"] ["told", "due"] (defScope s__law_same) := ⟨rfl, rfl, rfl, by decide +kernel, rfl, by decide +kernel, by decide +kernel⟩
theorem fd__law_same {P : Program} {w : World} {K : PySem.W.Frag} {mg : Str → Option Value} {base : Heap} {A : Cls} {fI f : Addr} {fd : FuncData} (T : Glob w K mg A fI) (F : Fun K "_law_same" "_law_same" s__law_same f fd) : FnG P w K mg base 1 f fd ["told", "due"] (LSp K (c__law_same A)) :=
  fnD_of (t := fun e => rd__law_same A e) F sc__law_same rfl len__law_same (fun cdv A0 outer s H E O e C tk ow => ((dss_one (ds_ret (de_cmp (op_eqA C.room.units) od_eqA (de_callB (call_reprP C.gd C.u66) cd_reprP rfl T.z_repr (by decide +kernel) (da_cons (dv 0) da_nil)) (de_callB (call_reprP C.gd C.u66) cd_reprP rfl T.z_repr (by decide +kernel) (da_cons (dv 1) da_nil)) (nomark _)))))) ok__law_same
theorem dh__law_same {P : Program} {w : World} {K : PySem.W.Frag} {mg : Str → Option Value} {base : Heap} {A : Cls} {fI f : Addr} {fd : FuncData} (T : Glob w K mg A fI) (F : Fun K "_law_same" "_law_same" s__law_same f fd) (hm : mg "_law_same" = some (.ref f)) : Fd P w K mg base "_law_same" 1 ["told", "due"] (c__law_same A) := by
  exact ⟨_, _, (fd__law_same T F), hm, F.kp, F.binds fun _ _ _ _ _ _ us hl => match us, hl with | [_, _], _ => rfl⟩
abbrev sc_N__law_guard : List Str := ["source", "many", "low", "by"]
theorem sc__law_guard : FnScope ["source", "many", "low", "by"] ["source", "many"] (defScope s__law_guard) := ⟨rfl, rfl, rfl, by decide +kernel, rfl, by decide +kernel, by decide +kernel⟩
theorem fd__law_guard {P : Program} {w : World} {K : PySem.W.Frag} {mg : Str → Option Value} {base : Heap} {A : Cls} {fI f : Addr} {fd : FuncData} (T : Glob w K mg A fI) (h__law_draw : Fd P w K mg base "_law_draw" 1 ["source", "many"] (c__law_draw A)) (F : Fun K "_law_guard" "_law_guard" s__law_guard f fd) : FnG P w K mg base 2 f fd ["source", "many"] (LSp K (c__law_guard A)) :=
  fnD_of (t := fun e => rd__law_guard A (c__law_draw A) e) F sc__law_guard rfl len__law_guard (fun cdv A0 outer s H E O e C tk ow => ((dss_cons (ds_if (dt_cmp (op_eqA C.room.units) od_eqA (de_callF h__law_draw (C.room.mono (by decide)) C.gd C.px rfl (da_cons (dv 0) (da_cons de_int da_nil))) de_int (nomark _)) (dss_one (ds_ret (de_tup (da_cons de_int (da_cons (dv 1) (da_cons de_int (da_cons de_int da_nil))))))) dss_nil)
    (dss_cons (ds_par (i := 2) (j := 3) rfl sc__law_guard.nd rfl rfl (by decide) rfl rfl (da_cons (de_callF h__law_draw (C.room.mono (by decide)) C.gd C.px rfl (da_cons (dv 0) (da_cons (de_add (dv 1) de_int) da_nil))) (da_cons (de_add de_int (de_callF h__law_draw (C.room.mono (by decide)) C.gd C.px rfl (da_cons (dv 0) (da_cons de_int da_nil)))) da_nil)))
    (dss_one (ds_ret (de_tup (da_cons (dv 2) (da_cons (de_add (dv 2) (de_callF h__law_draw (C.room.mono (by decide)) C.gd C.px rfl (da_cons (dv 0) (da_cons (de_add (de_sub (dv 1) (dv 2)) de_int) da_nil)))) (da_cons (dv 3) (da_cons (de_callF h__law_draw (C.room.mono (by decide)) C.gd C.px rfl (da_cons (dv 0) (da_cons (dv 3) da_nil))) da_nil))))))))))) ok__law_guard
theorem dh__law_guard {P : Program} {w : World} {K : PySem.W.Frag} {mg : Str → Option Value} {base : Heap} {A : Cls} {fI f : Addr} {fd : FuncData} (T : Glob w K mg A fI) (h__law_draw : Fd P w K mg base "_law_draw" 1 ["source", "many"] (c__law_draw A)) (F : Fun K "_law_guard" "_law_guard" s__law_guard f fd) (hm : mg "_law_guard" = some (.ref f)) : Fd P w K mg base "_law_guard" 2 ["source", "many"] (c__law_guard A) := by
  exact ⟨_, _, (fd__law_guard T h__law_draw F), hm, F.kp, F.binds fun _ _ _ _ _ _ us hl => match us, hl with | [_, _], _ => rfl⟩
abbrev sc_N__law_cell : List Str := ["source"]
theorem sc__law_cell : FnScope ["source"] ["source"] (defScope s__law_cell) := ⟨rfl, rfl, rfl, by decide +kernel, rfl, by decide +kernel, by decide +kernel⟩
theorem fd__law_cell {P : Program} {w : World} {K : PySem.W.Frag} {mg : Str → Option Value} {base : Heap} {A : Cls} {fI f : Addr} {fd : FuncData} (T : Glob w K mg A fI) (h__law_draw : Fd P w K mg base "_law_draw" 1 ["source", "many"] (c__law_draw A)) (F : Fun K "_law_cell" "_law_cell" s__law_cell f fd) : FnG P w K mg base 2 f fd ["source"] (LSp K (c__law_cell A)) :=
  fnD_of (t := fun e => rd__law_cell A (c__law_draw A) e) F sc__law_cell rfl len__law_cell (fun cdv A0 outer s H E O e C tk ow => ((dss_one (ds_ret (de_tup (da_cons (de_sub (de_callF h__law_draw (C.room.mono (by decide)) C.gd C.px rfl (da_cons (dv 0) (da_cons de_int da_nil))) de_int) (da_cons (de_sub (de_callF h__law_draw (C.room.mono (by decide)) C.gd C.px rfl (da_cons (dv 0) (da_cons de_int da_nil))) de_int) da_nil))))))) ok__law_cell
theorem dh__law_cell {P : Program} {w : World} {K : PySem.W.Frag} {mg : Str → Option Value} {base : Heap} {A : Cls} {fI f : Addr} {fd : FuncData} (T : Glob w K mg A fI) (h__law_draw : Fd P w K mg base "_law_draw" 1 ["source", "many"] (c__law_draw A)) (F : Fun K "_law_cell" "_law_cell" s__law_cell f fd) (hm : mg "_law_cell" = some (.ref f)) : Fd P w K mg base "_law_cell" 2 ["source"] (c__law_cell A) := by
  exact ⟨_, _, (fd__law_cell T h__law_draw F), hm, F.kp, F.binds fun _ _ _ _ _ _ us hl => match us, hl with | [_], _ => rfl⟩
abbrev sc_N__law_statement : List Str := ["source", "many", "names_here", "a", "b", "row", "name", "some", "more", "last", "pick", "part"]
theorem sc__law_statement : FnScope ["source", "many", "names_here", "a", "b", "row", "name", "some", "more", "last", "pick", "part"] ["source", "many", "names_here"] (defScope s__law_statement) := ⟨rfl, rfl, rfl, by decide +kernel, rfl, by decide +kernel, by decide +kernel⟩
theorem fd__law_statement {P : Program} {w : World} {K : PySem.W.Frag} {mg : Str → Option Value} {base : Heap} {A : Cls} {fI f : Addr} {fd : FuncData} (T : Glob w K mg A fI) (h__law_cell : Fd P w K mg base "_law_cell" 2 ["source"] (c__law_cell A)) (h__law_draw : Fd P w K mg base "_law_draw" 1 ["source", "many"] (c__law_draw A)) (h__law_guard : Fd P w K mg base "_law_guard" 2 ["source", "many"] (c__law_guard A)) (F : Fun K "_law_statement" "_law_statement" s__law_statement f fd) : FnG P w K mg base 3 f fd ["source", "many", "names_here"] (LSp K (c__law_statement A)) :=
  fnD_of (t := fun e => rd__law_statement A (c__law_cell A) (c__law_draw A) (c__law_guard A) e) F sc__law_statement rfl len__law_statement (fun cdv A0 outer s H E O e C tk ow => ((dss_cons (ds_asg (de_tup (da_cons (de_callF h__law_cell (C.room.mono (by decide)) C.gd C.px rfl (da_cons (dv 0) da_nil)) (da_cons (de_callF h__law_guard (C.room.mono (by decide)) C.gd C.px rfl (da_cons (dv 0) (da_cons (dv 1) da_nil))) da_nil))) (dg_tup rfl (dgs_cons (dg_tup rfl (dgs_cons (dg_name (i := 3) sc__law_statement.nd rfl (Or.inl rfl)) (dgs_cons (dg_name (i := 4) sc__law_statement.nd rfl (Or.inl rfl)) dgs_nil))) (dgs_cons (dg_name (i := 5) sc__law_statement.nd rfl (Or.inl rfl)) dgs_nil))))
    (dss_cons (ds_asg (de_ix (dv 2) (de_callF h__law_draw (C.room.mono (by decide)) C.gd C.px rfl (da_cons (dv 0) (da_cons (de_callB call_len cd_len rfl T.z_len PySem.boot_len (da_cons (dv 2) da_nil)) da_nil)))) (dg_name (i := 6) sc__law_statement.nd rfl (Or.inl rfl)))
    (dss_cons (ds_setLc (i := 7) rfl sc__law_statement.nd rfl rfl (sw_true rfl rfl rfl (by decide +kernel)) (di_rw1 rfl T.z_range (da_cons de_int da_nil)) (blkOk_by (show blkC sc_N__law_statement (defScope s__law_statement) _ [("part", 11)] = true from by decide +kernel)) (by decide) (fun _ _ _ _ _ => (dg_name (i := 11) sc__law_statement.nd rfl (Or.inl rfl))) (fun _ _ _ _ _ => dts_nil) (fun _ _ _ _ _ => (de_ix (dv 2) (de_callF h__law_draw (C.room.mono (by decide)) C.gd passesN rfl (da_cons (dv 0) (da_cons (de_callB call_len cd_len rfl T.z_len PySem.boot_len (da_cons (dv 2) da_nil)) da_nil))))) (own := [("part", 11)]))
    (dss_cons (ds_par (i := 8) (j := 9) rfl sc__law_statement.nd rfl rfl (by decide) rfl rfl (da_cons (de_callF h__law_cell (C.room.mono (by decide)) C.gd C.px rfl (da_cons (dv 0) da_nil)) (da_cons (de_callF h__law_cell (C.room.mono (by decide)) C.gd C.px rfl (da_cons (dv 0) da_nil)) da_nil)))
    (dss_cons (ds_asg (de_callF h__law_draw (C.room.mono (by decide)) C.gd C.px rfl (da_cons (dv 0) (da_cons de_int da_nil))) (dg_name (i := 10) sc__law_statement.nd rfl (Or.inl rfl)))
    (dss_cons (ds_if (dt_cmp op_lt od_lt (dv 10) de_int (nomark _)) (dss_one (ds_ret (de_tup (da_cons de_str (da_cons (dv 5) (da_cons (dv 6) (da_cons (dv 3) (da_cons (dv 4) (da_cons (de_sub (de_callF h__law_draw (C.room.mono (by decide)) C.gd C.px rfl (da_cons (dv 0) (da_cons de_int da_nil))) de_int) (da_cons (de_sub (de_callF h__law_draw (C.room.mono (by decide)) C.gd C.px rfl (da_cons (dv 0) (da_cons de_int da_nil))) de_int) da_nil)))))))))) dss_nil)
    (dss_cons (ds_if (dt_cmp (op_eqA C.room.units) od_eqA (dv 10) de_int (nomark _)) (dss_one (ds_ret (de_tup (da_cons de_str (da_cons (dv 5) (da_cons (dv 6) (da_cons (dv 3) (da_cons (dv 4) (da_cons (de_ix (dv 7) de_int) (da_cons (de_ix (dv 8) de_int) (da_cons (de_ix (dv 8) de_int) (da_cons (de_sub (de_callF h__law_draw (C.room.mono (by decide)) C.gd C.px rfl (da_cons (dv 0) (da_cons de_int da_nil))) de_int) da_nil)))))))))))) dss_nil)
    (dss_one (ds_ret (de_tup (da_cons de_str (da_cons (dv 5) (da_cons (dv 6) (da_cons (dv 3) (da_cons (dv 4) (da_cons (de_ix (dv 7) de_int) (da_cons (de_ix (dv 8) de_int) (da_cons (de_ix (dv 8) de_int) (da_cons (de_ix (dv 7) de_int) (da_cons (de_ix (dv 9) de_int) (da_cons (de_ix (dv 9) de_int) da_nil))))))))))))))))))))))) ok__law_statement
theorem dh__law_statement {P : Program} {w : World} {K : PySem.W.Frag} {mg : Str → Option Value} {base : Heap} {A : Cls} {fI f : Addr} {fd : FuncData} (T : Glob w K mg A fI) (h__law_cell : Fd P w K mg base "_law_cell" 2 ["source"] (c__law_cell A)) (h__law_draw : Fd P w K mg base "_law_draw" 1 ["source", "many"] (c__law_draw A)) (h__law_guard : Fd P w K mg base "_law_guard" 2 ["source", "many"] (c__law_guard A)) (F : Fun K "_law_statement" "_law_statement" s__law_statement f fd) (hm : mg "_law_statement" = some (.ref f)) : Fd P w K mg base "_law_statement" 3 ["source", "many", "names_here"] (c__law_statement A) := by
  exact ⟨_, _, (fd__law_statement T h__law_cell h__law_draw h__law_guard F), hm, F.kp, F.binds fun _ _ _ _ _ _ us hl => match us, hl with | [_, _, _], _ => rfl⟩
abbrev sc_N__law_places : List Str := ["source", "many", "spot"]
theorem sc__law_places : FnScope ["source", "many", "spot"] ["source", "many"] (defScope s__law_places) := ⟨rfl, rfl, rfl, by decide +kernel, rfl, by decide +kernel, by decide +kernel⟩
theorem fd__law_places {P : Program} {w : World} {K : PySem.W.Frag} {mg : Str → Option Value} {base : Heap} {A : Cls} {fI f : Addr} {fd : FuncData} (T : Glob w K mg A fI) (h__law_draw : Fd P w K mg base "_law_draw" 1 ["source", "many"] (c__law_draw A)) (F : Fun K "_law_places" "_law_places" s__law_places f fd) : FnG P w K mg base 2 f fd ["source", "many"] (LSp K (c__law_places A)) :=
  fnD_of (t := fun e => rd__law_places A (c__law_draw A) e) F sc__law_places rfl len__law_places (fun cdv A0 outer s H E O e C tk ow => ((dss_one (ds_ret (de_ei (de_lc rfl sc__law_places.nd (di_rw2 rfl T.z_range (da_cons de_int (da_cons (dv 1) da_nil))) (blkOk_by (show blkC sc_N__law_places (defScope s__law_places) _ [("spot", 2)] = true from by decide +kernel)) (by decide) (fun _ _ _ _ _ => (dg_name (i := 2) sc__law_places.nd rfl (Or.inl rfl))) (fun _ _ _ _ _ => (dts_one (dt_cmp (op_eqA C.room.units) od_eqA (de_callF h__law_draw (C.room.mono (by decide)) C.gd passesN rfl (da_cons (dv 0) (da_cons de_int da_nil))) de_int (nomark _)))) (fun _ _ _ _ _ => (dv 2)) (own := [("spot", 2)])) (de_lcM rfl sc__law_places.nd (di_rw2 rfl T.z_range (da_cons de_int (da_cons (dv 1) da_nil))) (blkOk_by (show blkC sc_N__law_places (defScope s__law_places) _ [("spot", 2)] = true from by decide +kernel)) (by decide) (fun _ _ _ _ _ => (dg_name (i := 2) sc__law_places.nd rfl (Or.inl rfl))) (fun _ _ _ _ _ => (dts_one (dt_cmp (op_eqA C.room.units) od_eqA (de_callF h__law_draw (C.room.mono (by decide)) C.gd passesN rfl (da_cons (dv 0) (da_cons de_int da_nil))) de_int (nomark _)))) (fun _ _ _ _ _ => (dv 2)) (own := [("spot", 2)]))))))) ok__law_places
theorem dh__law_places {P : Program} {w : World} {K : PySem.W.Frag} {mg : Str → Option Value} {base : Heap} {A : Cls} {fI f : Addr} {fd : FuncData} (T : Glob w K mg A fI) (h__law_draw : Fd P w K mg base "_law_draw" 1 ["source", "many"] (c__law_draw A)) (F : Fun K "_law_places" "_law_places" s__law_places f fd) (hm : mg "_law_places" = some (.ref f)) : Fd P w K mg base "_law_places" 2 ["source", "many"] (c__law_places A) := by
  exact ⟨_, _, (fd__law_places T h__law_draw F), hm, F.kp, F.binds fun _ _ _ _ _ _ us hl => match us, hl with | [_, _], _ => rfl⟩
abbrev sc_N__law_parts : List Str := ["program", "found", "spot", "item", "plain"]
theorem sc__law_parts : FnScope ["program", "found", "spot", "item", "plain"] ["program"] (defScope s__law_parts) := ⟨rfl, rfl, rfl, by decide +kernel, rfl, by decide +kernel, by decide +kernel⟩
theorem fd__law_parts {P : Program} {w : World} {K : PySem.W.Frag} {mg : Str → Option Value} {base : Heap} {A : Cls} {fI f : Addr} {fd : FuncData} (T : Glob w K mg A fI) (F : Fun K "_law_parts" "_law_parts" s__law_parts f fd) : FnG P w K mg base 1 f fd ["program"] (LSp K (c__law_parts A)) :=
  fnD_of (t := fun e => rd__law_parts A e) F sc__law_parts rfl len__law_parts (fun cdv A0 outer s H E O e C tk ow => ((dss_cons (ds_asg (de_lstM da_nil) (dg_name (i := 1) sc__law_parts.nd rfl (Or.inl rfl)))
    (dss_cons (ds_for ow rfl (di_enX rfl T.z_enumerate (da_cons (dv 0) da_nil)) (dg_tup rfl (dgs_cons (dg_name (i := 2) sc__law_parts.nd rfl (Or.inl rfl)) (dgs_cons (dg_name (i := 3) sc__law_parts.nd rfl (Or.inl rfl)) dgs_nil))) (dss_cons (ds_asg (de_if (dt_cmp (op_eqA C.room.units) od_eqA (de_ix (dv 3) de_int) de_str (nomark _)) (de_sl (dv 3) (do_some de_int) do_none) de_non) (dg_name (i := 4) sc__law_parts.nd rfl (Or.inl rfl)))
    (dss_cons (ds_if (dt_cmp (op_eqA C.room.units) od_eqA (de_ix (dv 3) de_int) de_str (nomark _)) (dss_one (ds_expr (de_append (pe_bm PySem.F.plainAttrs_list PySem.F.slot_list_append PySem.F.type_list_append mt_append (dv 1) (pa_cons (de_tup (da_cons (dv 2) (da_cons de_str (da_cons (de_ix (dv 3) de_int) (da_cons (de_ix (dv 3) de_int) (da_cons (de_ix (dv 3) de_int) (da_cons (de_ix (dv 3) de_int) (da_cons de_non da_nil)))))))) pa_nil))))) dss_nil)
    (dss_cons (ds_if (dt_cmp (op_eqA C.room.units) od_eqA (de_ix (dv 3) de_int) de_str (nomark _)) (dss_cons (ds_expr (de_append (pe_bm PySem.F.plainAttrs_list PySem.F.slot_list_append PySem.F.type_list_append mt_append (dv 1) (pa_cons (de_tup (da_cons (dv 2) (da_cons de_str (da_cons (de_ix (dv 3) de_int) (da_cons (de_ix (dv 3) de_int) (da_cons (de_ix (dv 3) de_int) (da_cons (de_ix (dv 3) de_int) (da_cons de_non da_nil)))))))) pa_nil))))
    (dss_one (ds_expr (de_append (pe_bm PySem.F.plainAttrs_list PySem.F.slot_list_append PySem.F.type_list_append mt_append (dv 1) (pa_cons (de_tup (da_cons (dv 2) (da_cons de_str (da_cons (de_ix (dv 3) de_int) (da_cons (de_ix (dv 3) de_int) (da_cons (de_ix (dv 3) de_int) (da_cons (de_ix (dv 3) de_int) (da_cons de_non da_nil)))))))) pa_nil)))))) dss_nil)
    (dss_one (ds_expr (de_append (pe_bm PySem.F.plainAttrs_list PySem.F.slot_list_append PySem.F.type_list_append mt_append (dv 1) (pa_cons (de_tup (da_cons (dv 2) (da_cons de_str (da_cons (de_ix (dv 3) de_int) (da_cons (de_ix (dv 3) de_int) (da_cons (de_ix (dv 3) de_int) (da_cons (de_ix (dv 3) de_int) (da_cons (dv 4) da_nil)))))))) pa_nil)))))))))
    (dss_one (ds_ret (dvF 1))))))) ok__law_parts
theorem dh__law_parts {P : Program} {w : World} {K : PySem.W.Frag} {mg : Str → Option Value} {base : Heap} {A : Cls} {fI f : Addr} {fd : FuncData} (T : Glob w K mg A fI) (F : Fun K "_law_parts" "_law_parts" s__law_parts f fd) (hm : mg "_law_parts" = some (.ref f)) : Fd P w K mg base "_law_parts" 1 ["program"] (c__law_parts A) := by
  exact ⟨_, _, (fd__law_parts T F), hm, F.kp, F.binds fun _ _ _ _ _ _ us hl => match us, hl with | [_], _ => rfl⟩
abbrev sc_N__law_phase : List Str := ["places", "spot", "place"]
theorem sc__law_phase : FnScope ["places", "spot", "place"] ["places", "spot"] (defScope s__law_phase) := ⟨rfl, rfl, rfl, by decide +kernel, rfl, by decide +kernel, by decide +kernel⟩
theorem fd__law_phase {P : Program} {w : World} {K : PySem.W.Frag} {mg : Str → Option Value} {base : Heap} {A : Cls} {fI f : Addr} {fd : FuncData} (T : Glob w K mg A fI) (F : Fun K "_law_phase" "_law_phase" s__law_phase f fd) : FnG P w K mg base 1 f fd ["places", "spot"] (LSp K (c__law_phase A)) :=
  fnD_of (t := fun e => rd__law_phase A e) F sc__law_phase rfl len__law_phase (fun cdv A0 outer s H E O e C tk ow => ((dss_one (ds_ret (de_callB call_len cd_len rfl T.z_len PySem.boot_len (da_cons (de_lc rfl sc__law_phase.nd (di_sq (dv 0)) (blkOk_by (show blkC sc_N__law_phase (defScope s__law_phase) _ [("place", 2)] = true from by decide +kernel)) (by decide) (fun _ _ _ _ _ => (dg_name (i := 2) sc__law_phase.nd rfl (Or.inl rfl))) (fun _ _ _ _ _ => (dts_one (dt_cmp op_leX od_leX (dv 2) (dv 1) (nomark _)))) (fun _ _ _ _ _ => (dv 2)) (own := [("place", 2)])) da_nil)))))) ok__law_phase
theorem dh__law_phase {P : Program} {w : World} {K : PySem.W.Frag} {mg : Str → Option Value} {base : Heap} {A : Cls} {fI f : Addr} {fd : FuncData} (T : Glob w K mg A fI) (F : Fun K "_law_phase" "_law_phase" s__law_phase f fd) (hm : mg "_law_phase" = some (.ref f)) : Fd P w K mg base "_law_phase" 1 ["places", "spot"] (c__law_phase A) := by
  exact ⟨_, _, (fd__law_phase T F), hm, F.kp, F.binds fun _ _ _ _ _ _ us hl => match us, hl with | [_, _], _ => rfl⟩
abbrev sc_N__law_far_statement : List Str := ["source", "item", "part"]
theorem sc__law_far_statement : FnScope ["source", "item", "part"] ["source", "item"] (defScope s__law_far_statement) := ⟨rfl, rfl, rfl, by decide +kernel, rfl, by decide +kernel, by decide +kernel⟩
theorem fd__law_far_statement {P : Program} {w : World} {K : PySem.W.Frag} {mg : Str → Option Value} {base : Heap} {A : Cls} {fI f : Addr} {fd : FuncData} (T : Glob w K mg A fI) (F : Fun K "_law_far_statement" "_law_far_statement" s__law_far_statement f fd) : FnG P w K mg base 1 f fd ["source", "item"] (LSp K (c__law_far_statement A)) :=
  fnD_of (t := fun e => rd__law_far_statement A e) F sc__law_far_statement rfl len__law_far_statement (fun cdv A0 outer s H E O e C tk ow => ((dss_one (ds_ret (de_add (de_sl (dv 1) do_none (do_some de_int)) (de_callTy call_tuple_of cd_tuple rfl T.z_tuple (by decide +kernel) (da_cons (de_lc rfl sc__law_far_statement.nd (di_sq (de_sl (dv 1) (do_some de_int) do_none)) (blkOk_by (show blkC sc_N__law_far_statement (defScope s__law_far_statement) _ [("part", 2)] = true from by decide +kernel)) (by decide) (fun _ _ _ _ _ => (dg_name (i := 2) sc__law_far_statement.nd rfl (Or.inl rfl))) (fun _ _ _ _ _ => dts_nil) (fun _ _ _ _ _ => (de_if (dt_truth (de_callB call_isi cd_isInt rfl T.z_isinstance (by decide +kernel) (da_cons (dv 2) (da_cons (de_typ rfl T.z_int (by decide +kernel)) da_nil)))) (de_add (de_mul (dv 2) (de_pow de_int de_int)) de_int) (dv 2))) (own := [("part", 2)])) da_nil))))))) ok__law_far_statement
theorem dh__law_far_statement {P : Program} {w : World} {K : PySem.W.Frag} {mg : Str → Option Value} {base : Heap} {A : Cls} {fI f : Addr} {fd : FuncData} (T : Glob w K mg A fI) (F : Fun K "_law_far_statement" "_law_far_statement" s__law_far_statement f fd) (hm : mg "_law_far_statement" = some (.ref f)) : Fd P w K mg base "_law_far_statement" 1 ["source", "item"] (c__law_far_statement A) := by
  exact ⟨_, _, (fd__law_far_statement T F), hm, F.kp, F.binds fun _ _ _ _ _ _ us hl => match us, hl with | [_, _], _ => rfl⟩
abbrev sc_N__law_name : List Str := ["source", "letters", "more"]
theorem sc__law_name : FnScope ["source", "letters", "more"] ["source"] (defScope s__law_name) := ⟨rfl, rfl, rfl, by decide +kernel, rfl, by decide +kernel, by decide +kernel⟩
theorem fd__law_name {P : Program} {w : World} {K : PySem.W.Frag} {mg : Str → Option Value} {base : Heap} {A : Cls} {fI f : Addr} {fd : FuncData} (T : Glob w K mg A fI) (h__law_draw : Fd P w K mg base "_law_draw" 1 ["source", "many"] (c__law_draw A)) (F : Fun K "_law_name" "_law_name" s__law_name f fd) : FnG P w K mg base 2 f fd ["source"] (LSp K (c__law_name A)) :=
  fnD_of (t := fun e => rd__law_name A (c__law_draw A) e) F sc__law_name rfl len__law_name (fun cdv A0 outer s H E O e C tk ow => ((dss_cons (ds_asg de_str (dg_name (i := 1) sc__law_name.nd rfl (Or.inr rfl)))
    (dss_one (ds_ret (de_join de_str (de_lc rfl sc__law_name.nd (di_rw1 rfl T.z_range (da_cons (de_add de_int (de_callF h__law_draw (C.room.mono (by decide)) C.gd C.px rfl (da_cons (dv 0) (da_cons de_int da_nil)))) da_nil)) (blkOk_by (show blkC sc_N__law_name (defScope s__law_name) _ [("more", 2)] = true from by decide +kernel)) (by decide) (fun _ _ _ _ _ => (dg_name (i := 2) sc__law_name.nd rfl (Or.inl rfl))) (fun _ _ _ _ _ => dts_nil) (fun _ _ _ _ _ => (de_ix (dv 1) (de_callF h__law_draw (C.room.mono (by decide)) C.gd passesN rfl (da_cons (dv 0) (da_cons de_int da_nil))))) (own := [("more", 2)])))))))) ok__law_name
theorem dh__law_name {P : Program} {w : World} {K : PySem.W.Frag} {mg : Str → Option Value} {base : Heap} {A : Cls} {fI f : Addr} {fd : FuncData} (T : Glob w K mg A fI) (h__law_draw : Fd P w K mg base "_law_draw" 1 ["source", "many"] (c__law_draw A)) (F : Fun K "_law_name" "_law_name" s__law_name f fd) (hm : mg "_law_name" = some (.ref f)) : Fd P w K mg base "_law_name" 2 ["source"] (c__law_name A) := by
  exact ⟨_, _, (fd__law_name T h__law_draw F), hm, F.kp, F.binds fun _ _ _ _ _ _ us hl => match us, hl with | [_], _ => rfl⟩
abbrev sc_N__law_bent : List Str := ["source", "program", "spot", "found", "item", "place"]
theorem sc__law_bent : FnScope ["source", "program", "spot", "found", "item", "place"] ["source", "program"] (defScope s__law_bent) := ⟨rfl, rfl, rfl, by decide +kernel, rfl, by decide +kernel, by decide +kernel⟩
theorem fd__law_bent {P : Program} {w : World} {K : PySem.W.Frag} {mg : Str → Option Value} {base : Heap} {A : Cls} {fI f : Addr} {fd : FuncData} (T : Glob w K mg A fI) (h__law_draw : Fd P w K mg base "_law_draw" 1 ["source", "many"] (c__law_draw A)) (h__law_name : Fd P w K mg base "_law_name" 2 ["source"] (c__law_name A)) (F : Fun K "_law_bent" "_law_bent" s__law_bent f fd) : FnG P w K mg base 3 f fd ["source", "program"] (LSp K (c__law_bent A)) :=
  fnD_of (t := fun e => rd__law_bent A (c__law_draw A) (c__law_name A) e) F sc__law_bent rfl len__law_bent (fun cdv A0 outer s H E O e C tk ow => ((dss_cons (ds_if (dt_cmp (op_eqA C.room.units) od_eqA (dv 1) (de_lst da_nil) (nomark _)) (dss_one (ds_ret (dv 1))) dss_nil)
    (dss_cons (ds_par (i := 2) (j := 3) rfl sc__law_bent.nd rfl rfl (by decide) rfl rfl (da_cons (de_callF h__law_draw (C.room.mono (by decide)) C.gd C.px rfl (da_cons (dv 0) (da_cons (de_callB call_len cd_len rfl T.z_len PySem.boot_len (da_cons (dv 1) da_nil)) da_nil))) (da_cons (de_callTy call_list_of cd_listM rfl T.z_list (by decide +kernel) (da_cons (dv 1) da_nil)) da_nil)))
    (dss_cons (ds_asg (de_callTy call_list_of cd_listM rfl T.z_list (by decide +kernel) (da_cons (de_ix (dv 1) (dv 2)) da_nil)) (dg_name (i := 4) sc__law_bent.nd rfl (Or.inl rfl)))
    (dss_cons (ds_asg (de_add de_int (de_callF h__law_draw (C.room.mono (by decide)) C.gd C.px rfl (da_cons (dv 0) (da_cons (de_sub (de_callB call_len cd_len rfl T.z_len PySem.boot_len (da_cons (dv 4) da_nil)) de_int) da_nil)))) (dg_name (i := 5) sc__law_bent.nd rfl (Or.inl rfl)))
    (dss_cons (ds_if (dt_cmp (op_eqA C.room.units) od_eqA (de_callF h__law_draw (C.room.mono (by decide)) C.gd C.px rfl (da_cons (dv 0) (da_cons de_int da_nil))) de_int (nomark _)) (dss_cons (ds_asg (de_tup (da_cons (de_ix (dv 3) de_int) (da_cons (de_ix (dv 3) (dv 2)) da_nil))) (dg_tup rfl (dgs_cons (dg_item (dv 3) (dv 2)) (dgs_cons (dg_item (dv 3) de_int) dgs_nil))))
    (dss_one (ds_ret (dvF 3)))) dss_nil)
    (dss_cons (ds_if (dt_cmp (op_eqA C.room.units) od_eqA (dv 5) de_int (nomark _)) (dss_one (ds_asg (de_tup (da_cons (de_ix (de_ix (dv 4) de_int) de_int) (da_cons (de_ix (de_ix (dv 4) de_int) de_int) (da_cons (de_add (de_ix (de_ix (dv 4) de_int) de_int) de_int) (da_cons (de_ix (de_ix (dv 4) de_int) de_int) da_nil))))) (dg_item (dv 4) de_int))) (dss_one (ds_if (dt_truth (de_callB call_isi cd_isStr rfl T.z_isinstance (by decide +kernel) (da_cons (de_ix (dv 4) (dv 5)) (da_cons (de_typ rfl T.z_str (by decide +kernel)) da_nil)))) (dss_one (ds_asg (de_callF h__law_name (C.room.mono (by decide)) C.gd C.px rfl (da_cons (dv 0) da_nil)) (dg_item (dv 4) (dv 5)))) (dss_one (ds_asg (de_add (de_ix (dv 4) (dv 5)) de_int) (dg_item (dv 4) (dv 5)))))))
    (dss_cons (ds_asg (de_callTy call_tuple_of cd_tuple rfl T.z_tuple (by decide +kernel) (da_cons (dv 4) da_nil)) (dg_item (dv 3) (dv 2)))
    (dss_one (ds_ret (dvF 3)))))))))))) ok__law_bent
theorem dh__law_bent {P : Program} {w : World} {K : PySem.W.Frag} {mg : Str → Option Value} {base : Heap} {A : Cls} {fI f : Addr} {fd : FuncData} (T : Glob w K mg A fI) (h__law_draw : Fd P w K mg base "_law_draw" 1 ["source", "many"] (c__law_draw A)) (h__law_name : Fd P w K mg base "_law_name" 2 ["source"] (c__law_name A)) (F : Fun K "_law_bent" "_law_bent" s__law_bent f fd) (hm : mg "_law_bent" = some (.ref f)) : Fd P w K mg base "_law_bent" 3 ["source", "program"] (c__law_bent A) := by
  exact ⟨_, _, (fd__law_bent T h__law_draw h__law_name F), hm, F.kp, F.binds fun _ _ _ _ _ _ us hl => match us, hl with | [_, _], _ => rfl⟩
abbrev sc_N__law_drawn : List Str := ["source", "many", "size", "names", "program", "more", "item"]
theorem sc__law_drawn : FnScope ["source", "many", "size", "names", "program", "more", "item"] ["source", "many"] (defScope s__law_drawn) := ⟨rfl, rfl, rfl, by decide +kernel, rfl, by decide +kernel, by decide +kernel⟩
theorem fd__law_drawn {P : Program} {w : World} {K : PySem.W.Frag} {mg : Str → Option Value} {base : Heap} {A : Cls} {fI f : Addr} {fd : FuncData} (T : Glob w K mg A fI) (h__law_draw : Fd P w K mg base "_law_draw" 1 ["source", "many"] (c__law_draw A)) (h__law_far_statement : Fd P w K mg base "_law_far_statement" 1 ["source", "item"] (c__law_far_statement A)) (h__law_name : Fd P w K mg base "_law_name" 2 ["source"] (c__law_name A)) (h__law_places : Fd P w K mg base "_law_places" 2 ["source", "many"] (c__law_places A)) (h__law_statement : Fd P w K mg base "_law_statement" 3 ["source", "many", "names_here"] (c__law_statement A)) (F : Fun K "_law_drawn" "_law_drawn" s__law_drawn f fd) : FnG P w K mg base 4 f fd ["source", "many"] (LSp K (c__law_drawn A)) :=
  fnD_of (t := fun e => rd__law_drawn A (c__law_draw A) (c__law_far_statement A) (c__law_name A) (c__law_places A) (c__law_statement A) e) F sc__law_drawn rfl len__law_drawn (fun cdv A0 outer s H E O e C tk ow => ((dss_cons (ds_asg (de_ix (de_lst (da_cons (de_callF h__law_draw (C.room.mono (by decide)) C.gd C.px rfl (da_cons (dv 0) (da_cons de_int da_nil))) (da_cons (de_callF h__law_draw (C.room.mono (by decide)) C.gd C.px rfl (da_cons (dv 0) (da_cons de_int da_nil))) da_nil))) (de_callF h__law_draw (C.room.mono (by decide)) C.gd C.px rfl (da_cons (dv 0) (da_cons de_int da_nil)))) (dg_name (i := 2) sc__law_drawn.nd rfl (Or.inl rfl)))
    (dss_cons (ds_asg (de_lst (da_cons de_str (da_cons (de_callF h__law_name (C.room.mono (by decide)) C.gd C.px rfl (da_cons (dv 0) da_nil)) (da_cons (de_callF h__law_name (C.room.mono (by decide)) C.gd C.px rfl (da_cons (dv 0) da_nil)) da_nil)))) (dg_name (i := 3) sc__law_drawn.nd rfl (Or.inr rfl)))
    (dss_cons (ds_setLc (i := 4) rfl sc__law_drawn.nd rfl rfl (sw_true rfl rfl rfl (by decide +kernel)) (di_rw1 rfl T.z_range (da_cons (dv 2) da_nil)) (blkOk_by (show blkC sc_N__law_drawn (defScope s__law_drawn) _ [("more", 5)] = true from by decide +kernel)) (by decide) (fun _ _ _ _ _ => (dg_name (i := 5) sc__law_drawn.nd rfl (Or.inl rfl))) (fun _ _ _ _ _ => dts_nil) (fun _ _ _ _ _ => (de_callF h__law_statement (C.room.mono (by decide)) C.gd passesN rfl (da_cons (dv 0) (da_cons (de_callB (call_min2 rfl) cd_min2 rfl T.z_min (by decide +kernel) (da_cons (dv 1) (da_cons de_int da_nil))) (da_cons (dv 3) da_nil))))) (own := [("more", 5)]))
    (dss_cons (ds_if (dt_cmp (op_eqA C.room.units) od_eqA (de_callF h__law_draw (C.room.mono (by decide)) C.gd C.px rfl (da_cons (dv 0) (da_cons de_int da_nil))) de_int (nomark _)) (dss_one (ds_setLc (i := 4) rfl sc__law_drawn.nd rfl rfl (sw_true rfl rfl rfl (by decide +kernel)) (di_sq (dv 4)) (blkOk_by (show blkC sc_N__law_drawn (defScope s__law_drawn) _ [("item", 6)] = true from by decide +kernel)) (by decide) (fun _ _ _ _ _ => (dg_name (i := 6) sc__law_drawn.nd rfl (Or.inl rfl))) (fun _ _ _ _ _ => dts_nil) (fun _ _ _ _ _ => (de_callF h__law_far_statement (C.room.mono (by decide)) C.gd passesN rfl (da_cons (dv 0) (da_cons (dv 6) da_nil)))) (own := [("item", 6)]))) dss_nil)
    (dss_one (ds_ret (de_lst (da_cons (dv 4) (da_cons (de_callF h__law_places (C.room.mono (by decide)) C.gd C.px rfl (da_cons (dv 0) (da_cons (dv 2) da_nil))) da_nil))))))))))) ok__law_drawn
theorem dh__law_drawn {P : Program} {w : World} {K : PySem.W.Frag} {mg : Str → Option Value} {base : Heap} {A : Cls} {fI f : Addr} {fd : FuncData} (T : Glob w K mg A fI) (h__law_draw : Fd P w K mg base "_law_draw" 1 ["source", "many"] (c__law_draw A)) (h__law_far_statement : Fd P w K mg base "_law_far_statement" 1 ["source", "item"] (c__law_far_statement A)) (h__law_name : Fd P w K mg base "_law_name" 2 ["source"] (c__law_name A)) (h__law_places : Fd P w K mg base "_law_places" 2 ["source", "many"] (c__law_places A)) (h__law_statement : Fd P w K mg base "_law_statement" 3 ["source", "many", "names_here"] (c__law_statement A)) (F : Fun K "_law_drawn" "_law_drawn" s__law_drawn f fd) (hm : mg "_law_drawn" = some (.ref f)) : Fd P w K mg base "_law_drawn" 4 ["source", "many"] (c__law_drawn A) := by
  exact ⟨_, _, (fd__law_drawn T h__law_draw h__law_far_statement h__law_name h__law_places h__law_statement F), hm, F.kp, F.binds fun _ _ _ _ _ _ us hl => match us, hl with | [_, _], _ => rfl⟩
abbrev sc_N__law_accesses_right : List Str := ["one", "program", "places", "parts", "phases", "some", "part", "spot"]
theorem sc__law_accesses_right : FnScope ["one", "program", "places", "parts", "phases", "some", "part", "spot"] ["one", "program", "places"] (defScope s__law_accesses_right) := ⟨rfl, rfl, rfl, by decide +kernel, rfl, by decide +kernel, by decide +kernel⟩
theorem fd__law_accesses_right {P : Program} {w : World} {K : PySem.W.Frag} {mg : Str → Option Value} {base : Heap} {A : Cls} {fI f : Addr} {fd : FuncData} (T : Glob w K mg A fI) (h__law_parts : Fd P w K mg base "_law_parts" 1 ["program"] (c__law_parts A)) (h__law_phase : Fd P w K mg base "_law_phase" 1 ["places", "spot"] (c__law_phase A)) (h__law_same : Fd P w K mg base "_law_same" 1 ["told", "due"] (c__law_same A)) (h_accesses : Fd P w K mg base "accesses" 3 ["kernel"] (c_accesses A)) (h_phase_of : Fd P w K mg base "phase_of" 3 ["kernel", "statement"] (c_phase_of A)) (hk_accesses_0 : FdX P w K mg base "accesses" 3 ["kernel"] (c_accesses A) ["kernel"] 0 [0] []) (hk_phase_of_1 : FdX P w K mg base "phase_of" 3 ["kernel", "statement"] (c_phase_of A) ["statement", "kernel"] 0 [1, 0] []) (F : Fun K "_law_accesses_right" "_law_accesses_right" s__law_accesses_right f fd) : FnG P w K mg base 4 f fd ["one", "program", "places"] (LSp K (c__law_accesses_right A)) :=
  fnD_of (t := fun e => rd__law_accesses_right A (c__law_parts A) (c__law_phase A) (c__law_same A) (c_accesses A) (c_phase_of A) e) F sc__law_accesses_right rfl len__law_accesses_right (fun cdv A0 outer s H E O e C tk ow => ((dss_cons (ds_setLc (i := 3) rfl sc__law_accesses_right.nd rfl rfl (sw_true rfl rfl rfl (by decide +kernel)) (di_sq (de_callF h__law_parts (C.room.mono (by decide)) C.gd C.px rfl (da_cons (dv 1) da_nil))) (blkOk_by (show blkC sc_N__law_accesses_right (defScope s__law_accesses_right) _ [("part", 6)] = true from by decide +kernel)) (by decide) (fun _ _ _ _ _ => (dg_name (i := 6) sc__law_accesses_right.nd rfl (Or.inl rfl))) (fun _ _ _ _ _ => dts_nil) (fun _ _ _ _ _ => (de_sl (dv 6) do_none (do_some de_int))) (own := [("part", 6)]))
    (dss_cons (ds_if (dt_not (dt_truth (de_callF h__law_same (C.room.mono (by decide)) C.gd C.px rfl (da_cons (de_lst (da_cons (de_callF h_accesses (C.room.mono (by decide)) C.gd C.px rfl (da_cons (dv 0) da_nil)) (da_cons (de_callFX0 (x := "accesses") hk_accesses_0 (C.room.mono (by decide)) C.gd C.px rfl (dk_cons (dv 0) dk_nil)) da_nil))) (da_cons (de_lst (da_cons (dv 3) (da_cons (dv 3) da_nil))) da_nil))))) (dss_one (ds_ret de_bl)) dss_nil)
    (dss_cons (ds_setLc (i := 4) rfl sc__law_accesses_right.nd rfl rfl (sw_true rfl rfl rfl (by decide +kernel)) (di_rw1 rfl T.z_range (da_cons (de_callB call_len cd_len rfl T.z_len PySem.boot_len (da_cons (dv 1) da_nil)) da_nil)) (blkOk_by (show blkC sc_N__law_accesses_right (defScope s__law_accesses_right) _ [("spot", 7)] = true from by decide +kernel)) (by decide) (fun _ _ _ _ _ => (dg_name (i := 7) sc__law_accesses_right.nd rfl (Or.inl rfl))) (fun _ _ _ _ _ => dts_nil) (fun _ _ _ _ _ => (de_callF h__law_phase (C.room.mono (by decide)) C.gd passesN rfl (da_cons (dv 2) (da_cons (dv 7) da_nil)))) (own := [("spot", 7)]))
    (dss_cons (ds_if (dt_cmp (op_neA C.room.units) od_neA (de_lc rfl sc__law_accesses_right.nd (di_rw1 rfl T.z_range (da_cons (de_callB call_len cd_len rfl T.z_len PySem.boot_len (da_cons (dv 1) da_nil)) da_nil)) (blkOk_by (show blkC sc_N__law_accesses_right (defScope s__law_accesses_right) _ [("spot", 7)] = true from by decide +kernel)) (by decide) (fun _ _ _ _ _ => (dg_name (i := 7) sc__law_accesses_right.nd rfl (Or.inl rfl))) (fun _ _ _ _ _ => dts_nil) (fun _ _ _ _ _ => (de_callF h_phase_of (C.room.mono (by decide)) C.gd passesN rfl (da_cons (dv 0) (da_cons (dv 7) da_nil)))) (own := [("spot", 7)])) (dv 4) (nomark _)) (dss_one (ds_ret de_bl)) dss_nil)
    (dss_cons (ds_if (PW.pt (dw_and (dt_cmp (op_neA C.room.units) od_neA (dv 1) (de_lst da_nil) (nomark _)) (dw_and1 (dt_cmp (op_neA C.room.units) od_neA (de_callFX0 (x := "phase_of") hk_phase_of_1 (C.room.mono (by decide)) C.gd C.px rfl (dk_cons (de_sub (de_callB call_len cd_len rfl T.z_len PySem.boot_len (da_cons (dv 1) da_nil)) de_int) (dk_cons (dv 0) dk_nil))) (de_ix (dv 4) (de_neg de_int)) (nomark _))))) (dss_one (ds_ret de_bl)) dss_nil)
    (dss_cons (ds_asg (de_callF h_accesses (C.room.mono (by decide)) C.gd C.px rfl (da_cons (dv 0) da_nil)) (dg_name (i := 5) sc__law_accesses_right.nd rfl (Or.inl rfl)))
    (dss_cons (ds_expr (de_append (pe_bm PySem.F.plainAttrs_list PySem.F.slot_list_append PySem.F.type_list_append mt_append (dv 5) (pa_cons de_int pa_nil))))
    (dss_one (ds_ret (de_cmp (op_eqA C.room.units) od_eqA (de_callF h_accesses (C.room.mono (by decide)) C.gd C.px rfl (da_cons (dv 0) da_nil)) (dv 3) (nomark _))))))))))))) ok__law_accesses_right
theorem dh__law_accesses_right {P : Program} {w : World} {K : PySem.W.Frag} {mg : Str → Option Value} {base : Heap} {A : Cls} {fI f : Addr} {fd : FuncData} (T : Glob w K mg A fI) (h__law_parts : Fd P w K mg base "_law_parts" 1 ["program"] (c__law_parts A)) (h__law_phase : Fd P w K mg base "_law_phase" 1 ["places", "spot"] (c__law_phase A)) (h__law_same : Fd P w K mg base "_law_same" 1 ["told", "due"] (c__law_same A)) (h_accesses : Fd P w K mg base "accesses" 3 ["kernel"] (c_accesses A)) (h_phase_of : Fd P w K mg base "phase_of" 3 ["kernel", "statement"] (c_phase_of A)) (hk_accesses_0 : FdX P w K mg base "accesses" 3 ["kernel"] (c_accesses A) ["kernel"] 0 [0] []) (hk_phase_of_1 : FdX P w K mg base "phase_of" 3 ["kernel", "statement"] (c_phase_of A) ["statement", "kernel"] 0 [1, 0] []) (F : Fun K "_law_accesses_right" "_law_accesses_right" s__law_accesses_right f fd) (hm : mg "_law_accesses_right" = some (.ref f)) : Fd P w K mg base "_law_accesses_right" 4 ["one", "program", "places"] (c__law_accesses_right A) := by
  exact ⟨_, _, (fd__law_accesses_right T h__law_parts h__law_phase h__law_same h_accesses h_phase_of hk_accesses_0 hk_phase_of_1 F), hm, F.kp, F.binds fun _ _ _ _ _ _ us hl => match us, hl with | [_, _, _], _ => rfl⟩
abbrev sc_N__law_made_right : List Str := ["source", "many", "program", "places", "held", "marks", "one", "two", "told", "others", "other", "due", "more", "place", "thing"]
theorem sc__law_made_right : FnScope ["source", "many", "program", "places", "held", "marks", "one", "two", "told", "others", "other", "due", "more", "place", "thing"] ["source", "many", "program", "places"] (defScope s__law_made_right) := ⟨rfl, rfl, rfl, by decide +kernel, rfl, by decide +kernel, by decide +kernel⟩
theorem fd__law_made_right {P : Program} {w : World} {K : PySem.W.Frag} {mg : Str → Option Value} {base : Heap} {A : Cls} {fI f : Addr} {fd : FuncData} (T : Glob w K mg A fI) (hI_Kernel_0 : ImK P w K mg base "Kernel" A.Kernel 4 ["self", "lanes", "statements", "barriers"] (c_Kernel___init__ A) ["barriers", "statements", "lanes"] [2, 1, 0] [.tup []]) (h__law_accesses_right : Fd P w K mg base "_law_accesses_right" 4 ["one", "program", "places"] (c__law_accesses_right A)) (h__law_bent : Fd P w K mg base "_law_bent" 3 ["source", "program"] (c__law_bent A)) (h__law_same : Fd P w K mg base "_law_same" 1 ["told", "due"] (c__law_same A)) (hi_Kernel_0 : Im P w K mg base "Kernel" A.Kernel 4 ["self", "lanes", "statements", "barriers"] (c_Kernel___init__ A) []) (hm_Kernel___eq__ : Mm P w K mg base A.Kernel "__eq__" 1 ["self", "other"] (c_Kernel___eq__ A)) (hm_Kernel___len__ : Mm P w K mg base A.Kernel "__len__" 1 ["self"] (c_Kernel___len__ A)) (hm_Kernel_with_barriers : Mm P w K mg base A.Kernel "with_barriers" 6 ["self", "barriers"] (c_Kernel_with_barriers A)) (hq_Kernel_barriers : Pp P w K mg base A.Kernel "barriers" 1 ["self"] (c_Kernel_barriers A)) (hq_Kernel_lanes : Pp P w K mg base A.Kernel "lanes" 1 ["self"] (c_Kernel_lanes A)) (hq_Kernel_statements : Pp P w K mg base A.Kernel "statements" 1 ["self"] (c_Kernel_statements A)) (F : Fun K "_law_made_right" "_law_made_right" s__law_made_right f fd) : FnG P w K mg base 7 f fd ["source", "many", "program", "places"] (LSp K (c__law_made_right A)) :=
  fnD_of (t := fun e => rd__law_made_right A (c_Kernel___eq__ A) (c_Kernel___init__ A) (c_Kernel___len__ A) (c_Kernel_barriers A) (c_Kernel_lanes A) (c_Kernel_statements A) (c_Kernel_with_barriers A) (c__law_accesses_right A) (c__law_bent A) (c__law_same A) e) F sc__law_made_right rfl len__law_made_right (fun cdv A0 outer s H E O e C tk ow => ((dss_cons (ds_par (i := 4) (j := 5) rfl sc__law_made_right.nd rfl rfl (by decide) rfl rfl (da_cons (de_callTy call_list_of cd_listM rfl T.z_list (by decide +kernel) (da_cons (dv 2) da_nil)) (da_cons (de_callTy call_list_of cd_listM rfl T.z_list (by decide +kernel) (da_cons (dv 3) da_nil)) da_nil)))
    (dss_cons (ds_asg (de_tup (da_cons (de_makeI (x := "Kernel") hi_Kernel_0 (C.room.mono (by decide)) C.gd C.px rfl (da_cons (dv 1) (da_cons (dv 4) (da_cons (dv 5) da_nil)))) (da_cons (de_makeK (x := "Kernel") hI_Kernel_0 (C.room.mono (by decide)) C.gd C.px rfl (dk_cons (de_callTy call_tuple_of cd_tuple rfl T.z_tuple (by decide +kernel) (da_cons (dv 3) da_nil)) (dk_cons (de_callTy call_list_of cd_list rfl T.z_list (by decide +kernel) (da_cons (dv 2) da_nil)) (dk_cons (dv 1) dk_nil)))) da_nil))) (dg_tup rfl (dgs_cons (dg_name (i := 6) sc__law_made_right.nd rfl (Or.inr rfl)) (dgs_cons (dg_name (i := 7) sc__law_made_right.nd rfl (Or.inl rfl)) dgs_nil))))
    (dss_cons (ds_expr (de_append (pe_bm PySem.F.plainAttrs_list PySem.F.slot_list_append PySem.F.type_list_append mt_append (dv 4) (pa_cons (de_tup (da_cons de_str (da_cons (de_tup (da_cons de_int (da_cons de_int (da_cons de_int (da_cons de_int da_nil))))) (da_cons de_str (da_cons de_int (da_cons de_int (da_cons de_int (da_cons de_int da_nil)))))))) pa_nil))))
    (dss_cons (ds_expr (de_append (pe_bm PySem.F.plainAttrs_list PySem.F.slot_list_append PySem.F.type_list_append mt_append (dv 5) (pa_cons de_int pa_nil))))
    (dss_cons (ds_asg (de_lst (da_cons (de_propP T.k_Kernel hq_Kernel_lanes (C.room.mono (by decide)) C.gd (dv 6)) (da_cons (de_propP T.k_Kernel hq_Kernel_statements (C.room.mono (by decide)) C.gd (dv 6)) (da_cons (de_propP T.k_Kernel hq_Kernel_barriers (C.room.mono (by decide)) C.gd (dv 6)) (da_cons (de_callB ((call_lenOwn hm_Kernel___len__ (C.room.mono (by decide)) C.gd).or call_len) cd_lenX rfl T.z_len PySem.boot_len (da_cons (dv 6) da_nil)) da_nil))))) (dg_name (i := 8) sc__law_made_right.nd rfl (Or.inl rfl)))
    (dss_cons (ds_if (PW.pt (dw_or (dt_not (dt_truth (de_callF h__law_same (C.room.mono (by decide)) C.gd C.px rfl (da_cons (dv 8) (da_cons (de_lst (da_cons (dv 1) (da_cons (dv 2) (da_cons (dv 3) (da_cons (de_callB call_len cd_len rfl T.z_len PySem.boot_len (da_cons (dv 2) da_nil)) da_nil))))) da_nil))))) (dw_or (dt_cmp (op_neTo T.ne_Kernel hm_Kernel___eq__ (C.room.mono (by decide)) C.gd) od_eqAny (dv 6) (dv 7) (nomark _)) (dw_or1 (dt_not (dt_cmp (op_eqTo hm_Kernel___eq__ (C.room.mono (by decide)) C.gd) od_eqAny (dv 6) (dv 7) (nomark _))))))) (dss_one (ds_ret de_bl)) dss_nil)
    (dss_cons (ds_expr (de_append (pe_bm PySem.F.plainAttrs_list PySem.F.slot_list_append PySem.F.type_list_append mt_append (de_propP T.k_Kernel hq_Kernel_statements (C.room.mono (by decide)) C.gd (dv 6)) (pa_cons de_int pa_nil))))
    (dss_cons (ds_expr (de_append (pe_bm PySem.F.plainAttrs_list PySem.F.slot_list_append PySem.F.type_list_append mt_append (de_propP T.k_Kernel hq_Kernel_barriers (C.room.mono (by decide)) C.gd (dv 6)) (pa_cons de_int pa_nil))))
    (dss_cons (ds_if (PW.pt (dw_or (dt_cmp (op_neA C.room.units) od_neA (de_propP T.k_Kernel hq_Kernel_statements (C.room.mono (by decide)) C.gd (dv 6)) (dv 2) (nomark _)) (dw_or1 (dt_cmp (op_neA C.room.units) od_neA (de_propP T.k_Kernel hq_Kernel_barriers (C.room.mono (by decide)) C.gd (dv 6)) (dv 3) (nomark _))))) (dss_one (ds_ret de_bl)) dss_nil)
    (dss_cons (ds_if (dt_not (dt_truth (de_callF h__law_accesses_right (C.room.mono (by decide)) C.gd C.px rfl (da_cons (dv 6) (da_cons (dv 2) (da_cons (dv 3) da_nil)))))) (dss_one (ds_ret de_bl)) dss_nil)
    (dss_cons (ds_asg (de_lstM (da_cons (de_makeI (x := "Kernel") hi_Kernel_0 (C.room.mono (by decide)) C.gd C.px rfl (da_cons (de_add (dv 1) de_int) (da_cons (de_callTy call_list_of cd_list rfl T.z_list (by decide +kernel) (da_cons (dv 2) da_nil)) (da_cons (dv 3) da_nil)))) (da_cons (de_methM T.k_Kernel hm_Kernel_with_barriers (C.room.mono (by decide)) C.gd C.px (dv 6) (da_cons (de_lst da_nil) da_nil)) da_nil))) (dg_name (i := 9) sc__law_made_right.nd rfl (Or.inl rfl)))
    (dss_cons (ds_asg (de_addM (dv 9) (de_lc rfl sc__law_made_right.nd (di_rw1 rfl T.z_range (da_cons de_int da_nil)) (blkOk_by (show blkC sc_N__law_made_right (defScope s__law_made_right) _ [("more", 12)] = true from by decide +kernel)) (by decide) (fun _ _ _ _ _ => (dg_name (i := 12) sc__law_made_right.nd rfl (Or.inl rfl))) (fun _ _ _ _ _ => dts_nil) (fun _ _ _ _ _ => (de_makeI (x := "Kernel") hi_Kernel_0 (C.room.mono (by decide)) C.gd passesN rfl (da_cons (dv 1) (da_cons (de_callF h__law_bent (C.room.mono (by decide)) C.gd passesN rfl (da_cons (dv 0) (da_cons (dv 2) da_nil))) (da_cons (dv 3) da_nil))))) (own := [("more", 12)]))) (dg_name (i := 9) sc__law_made_right.nd rfl (Or.inl rfl)))
    (dss_cons (ds_if (dt_cmp (op_neA C.room.units) od_neA (dv 2) (de_lst da_nil) (nomark _)) (dss_cons (ds_expr (de_append (pe_bm PySem.F.plainAttrs_list PySem.F.slot_list_append PySem.F.type_list_append mt_append (dv 9) (pa_cons (de_makeI (x := "Kernel") hi_Kernel_0 (C.room.mono (by decide)) C.gd C.px rfl (da_cons (dv 1) (da_cons (de_sl (dv 2) do_none (do_some (de_neg de_int))) (da_cons (de_lc rfl sc__law_made_right.nd (di_sq (dv 3)) (blkOk_by (show blkC sc_N__law_made_right (defScope s__law_made_right) _ [("place", 13)] = true from by decide +kernel)) (by decide) (fun _ _ _ _ _ => (dg_name (i := 13) sc__law_made_right.nd rfl (Or.inl rfl))) (fun _ _ _ _ _ => (dts_one (dt_cmp op_lt od_lt (dv 13) (de_sub (de_callB call_len cd_len rfl T.z_len PySem.boot_len (da_cons (dv 2) da_nil)) de_int) (nomark _)))) (fun _ _ _ _ _ => (dv 13)) (own := [("place", 13)])) da_nil)))) pa_nil))))
    (dss_one (ds_expr (de_append (pe_bm PySem.F.plainAttrs_list PySem.F.slot_list_append PySem.F.type_list_append mt_append (dv 9) (pa_cons (de_makeI (x := "Kernel") hi_Kernel_0 (C.room.mono (by decide)) C.gd C.px rfl (da_cons (dv 1) (da_cons (de_add (de_lst (da_cons (de_tup (da_cons de_str (da_cons (de_tup (da_cons de_int (da_cons de_int (da_cons de_int (da_cons de_int da_nil))))) (da_cons de_str (da_cons de_int (da_cons de_int (da_cons de_int (da_cons de_int da_nil)))))))) da_nil)) (de_sl (dv 2) (do_some de_int) do_none)) (da_cons (dv 3) da_nil)))) pa_nil)))))) dss_nil)
    (dss_cons (ds_for ow rfl (di_sq (dv 9)) (dg_name (i := 10) sc__law_made_right.nd rfl (Or.inl rfl)) (dss_cons (ds_asg (de_cmp (op_eqA C.room.units) od_eqA (de_lst (da_cons (de_propP T.k_Kernel hq_Kernel_lanes (C.room.mono (by decide)) C.gd (dv 10)) (da_cons (de_propP T.k_Kernel hq_Kernel_statements (C.room.mono (by decide)) C.gd (dv 10)) (da_cons (de_propP T.k_Kernel hq_Kernel_barriers (C.room.mono (by decide)) C.gd (dv 10)) da_nil)))) (de_lst (da_cons (dv 1) (da_cons (dv 2) (da_cons (dv 3) da_nil)))) (nomark _)) (dg_name (i := 11) sc__law_made_right.nd rfl (Or.inl rfl)))
    (dss_one (ds_if (PW.pt (dw_or (dt_cmp (op_neA C.room.units) od_neA (de_cmp (op_eqTo hm_Kernel___eq__ (C.room.mono (by decide)) C.gd) od_eqAny (dv 6) (dv 10) (nomark _)) (dv 11) (nomark _)) (dw_or1 (dt_cmp (op_eqA C.room.units) od_eqA (de_cmp (op_neTo T.ne_Kernel hm_Kernel___eq__ (C.room.mono (by decide)) C.gd) od_eqAny (dv 6) (dv 10) (nomark _)) (dv 11) (nomark _))))) (dss_one (ds_ret de_bl)) dss_nil))))
    (dss_one (ds_ret (de_cmp (op_eqA C.room.units) od_eqA (de_lc rfl sc__law_made_right.nd (di_sq (de_tup (da_cons (dv 2) (da_cons de_non (da_cons (dv 1) (da_cons de_str (da_cons (de_tup (da_cons (dv 1) (da_cons (dv 2) da_nil))) da_nil))))))) (blkOk_by (show blkC sc_N__law_made_right (defScope s__law_made_right) _ [("thing", 14)] = true from by decide +kernel)) (by decide) (fun _ _ _ _ _ => (dg_name (i := 14) sc__law_made_right.nd rfl (Or.inl rfl))) (fun _ _ _ _ _ => (dts_one (PW.pt (dw_or (dt_cmp (op_eqTo hm_Kernel___eq__ (C.room.mono (by decide)) C.gd) od_eqAny (dv 6) (dv 14) (nomark _)) (dw_or1 (dt_not (dt_cmp (op_neTo T.ne_Kernel hm_Kernel___eq__ (C.room.mono (by decide)) C.gd) od_eqAny (dv 6) (dv 14) (nomark _)))))))) (fun _ _ _ _ _ => de_int) (own := [("thing", 14)])) (de_lst da_nil) (nomark _)))))))))))))))))))) ok__law_made_right
theorem dh__law_made_right {P : Program} {w : World} {K : PySem.W.Frag} {mg : Str → Option Value} {base : Heap} {A : Cls} {fI f : Addr} {fd : FuncData} (T : Glob w K mg A fI) (hI_Kernel_0 : ImK P w K mg base "Kernel" A.Kernel 4 ["self", "lanes", "statements", "barriers"] (c_Kernel___init__ A) ["barriers", "statements", "lanes"] [2, 1, 0] [.tup []]) (h__law_accesses_right : Fd P w K mg base "_law_accesses_right" 4 ["one", "program", "places"] (c__law_accesses_right A)) (h__law_bent : Fd P w K mg base "_law_bent" 3 ["source", "program"] (c__law_bent A)) (h__law_same : Fd P w K mg base "_law_same" 1 ["told", "due"] (c__law_same A)) (hi_Kernel_0 : Im P w K mg base "Kernel" A.Kernel 4 ["self", "lanes", "statements", "barriers"] (c_Kernel___init__ A) []) (hm_Kernel___eq__ : Mm P w K mg base A.Kernel "__eq__" 1 ["self", "other"] (c_Kernel___eq__ A)) (hm_Kernel___len__ : Mm P w K mg base A.Kernel "__len__" 1 ["self"] (c_Kernel___len__ A)) (hm_Kernel_with_barriers : Mm P w K mg base A.Kernel "with_barriers" 6 ["self", "barriers"] (c_Kernel_with_barriers A)) (hq_Kernel_barriers : Pp P w K mg base A.Kernel "barriers" 1 ["self"] (c_Kernel_barriers A)) (hq_Kernel_lanes : Pp P w K mg base A.Kernel "lanes" 1 ["self"] (c_Kernel_lanes A)) (hq_Kernel_statements : Pp P w K mg base A.Kernel "statements" 1 ["self"] (c_Kernel_statements A)) (F : Fun K "_law_made_right" "_law_made_right" s__law_made_right f fd) (hm : mg "_law_made_right" = some (.ref f)) : Fd P w K mg base "_law_made_right" 7 ["source", "many", "program", "places"] (c__law_made_right A) := by
  exact ⟨_, _, (fd__law_made_right T hI_Kernel_0 h__law_accesses_right h__law_bent h__law_same hi_Kernel_0 hm_Kernel___eq__ hm_Kernel___len__ hm_Kernel_with_barriers hq_Kernel_barriers hq_Kernel_lanes hq_Kernel_statements F), hm, F.kp, F.binds fun _ _ _ _ _ _ us hl => match us, hl with | [_, _, _, _], _ => rfl⟩
abbrev sc_N__law_sum_right : List Str := ["many", "one", "two", "size", "left", "right", "between", "due", "both", "place"]
theorem sc__law_sum_right : FnScope ["many", "one", "two", "size", "left", "right", "between", "due", "both", "place"] ["many", "one", "two"] (defScope s__law_sum_right) := ⟨rfl, rfl, rfl, by decide +kernel, rfl, by decide +kernel, by decide +kernel⟩
theorem fd__law_sum_right {P : Program} {w : World} {K : PySem.W.Frag} {mg : Str → Option Value} {base : Heap} {A : Cls} {fI f : Addr} {fd : FuncData} (T : Glob w K mg A fI) (h__law_same : Fd P w K mg base "_law_same" 1 ["told", "due"] (c__law_same A)) (hi_Kernel_0 : Im P w K mg base "Kernel" A.Kernel 4 ["self", "lanes", "statements", "barriers"] (c_Kernel___init__ A) []) (hm_Kernel___add__ : Mm P w K mg base A.Kernel "__add__" 6 ["self", "other"] (c_Kernel___add__ A)) (hm_Kernel___eq__ : Mm P w K mg base A.Kernel "__eq__" 1 ["self", "other"] (c_Kernel___eq__ A)) (hq_Kernel_barriers : Pp P w K mg base A.Kernel "barriers" 1 ["self"] (c_Kernel_barriers A)) (hq_Kernel_lanes : Pp P w K mg base A.Kernel "lanes" 1 ["self"] (c_Kernel_lanes A)) (hq_Kernel_statements : Pp P w K mg base A.Kernel "statements" 1 ["self"] (c_Kernel_statements A)) (F : Fun K "_law_sum_right" "_law_sum_right" s__law_sum_right f fd) : FnG P w K mg base 7 f fd ["many", "one", "two"] (LSp K (c__law_sum_right A)) :=
  fnD_of (t := fun e => rd__law_sum_right A (c_Kernel___add__ A) (c_Kernel___eq__ A) (c_Kernel___init__ A) (c_Kernel_barriers A) (c_Kernel_lanes A) (c_Kernel_statements A) (c__law_same A) e) F sc__law_sum_right rfl len__law_sum_right (fun cdv A0 outer s H E O e C tk ow => ((dss_cons (ds_asg (de_callB call_len cd_len rfl T.z_len PySem.boot_len (da_cons (de_ix (dv 1) de_int) da_nil)) (dg_name (i := 3) sc__law_sum_right.nd rfl (Or.inr rfl)))
    (dss_cons (ds_asg (de_lst (da_cons (de_sl (de_ix (dv 2) de_int) do_none (do_some (de_sub de_int (dv 3)))) (da_cons (de_lc rfl sc__law_sum_right.nd (di_sq (de_ix (dv 2) de_int)) (blkOk_by (show blkC sc_N__law_sum_right (defScope s__law_sum_right) _ [("place", 9)] = true from by decide +kernel)) (by decide) (fun _ _ _ _ _ => (dg_name (i := 9) sc__law_sum_right.nd rfl (Or.inl rfl))) (fun _ _ _ _ _ => (dts_one (dt_cmp op_lt od_lt (dv 9) (de_sub de_int (dv 3)) (nomark _)))) (fun _ _ _ _ _ => (dv 9)) (own := [("place", 9)])) da_nil))) (dg_name (i := 2) sc__law_sum_right.nd rfl (Or.inl rfl)))
    (dss_cons (ds_par (i := 4) (j := 5) rfl sc__law_sum_right.nd rfl rfl (by decide) rfl rfl (da_cons (de_makeI (x := "Kernel") hi_Kernel_0 (C.room.mono (by decide)) C.gd C.px rfl (da_cons (dv 0) (da_cons (de_ix (dv 1) de_int) (da_cons (de_ix (dv 1) de_int) da_nil)))) (da_cons (de_makeI (x := "Kernel") hi_Kernel_0 (C.room.mono (by decide)) C.gd C.px rfl (da_cons (dv 0) (da_cons (de_ix (dv 2) de_int) (da_cons (de_ix (dv 2) de_int) da_nil)))) da_nil)))
    (dss_cons (ds_asg (de_if (PW.pt (dw_and (dt_cmp op_gt od_gt (dv 3) de_int (nomark _)) (dw_and1 (dt_cmp (op_neA C.room.units) od_neA (de_ix (dv 2) de_int) (de_lst da_nil) (nomark _))))) (de_lst (da_cons (dv 3) da_nil)) (de_lst da_nil)) (dg_name (i := 6) sc__law_sum_right.nd rfl (Or.inl rfl)))
    (dss_cons (ds_asg (de_lst (da_cons (de_add (de_ix (dv 1) de_int) (de_ix (dv 2) de_int)) (da_cons (de_add (de_add (de_ix (dv 1) de_int) (dv 6)) (de_lc rfl sc__law_sum_right.nd (di_sq (de_ix (dv 2) de_int)) (blkOk_by (show blkC sc_N__law_sum_right (defScope s__law_sum_right) _ [("place", 9)] = true from by decide +kernel)) (by decide) (fun _ _ _ _ _ => (dg_name (i := 9) sc__law_sum_right.nd rfl (Or.inl rfl))) (fun _ _ _ _ _ => dts_nil) (fun _ _ _ _ _ => (de_add (dv 3) (dv 9))) (own := [("place", 9)]))) da_nil))) (dg_name (i := 7) sc__law_sum_right.nd rfl (Or.inl rfl)))
    (dss_cons (ds_asg (de_addOwn hm_Kernel___add__ T.sf_Kernel (C.room.mono (by decide)) C.gd C.px (dv 4) (dv 5)) (dg_name (i := 8) sc__law_sum_right.nd rfl (Or.inl rfl)))
    (dss_cons (ds_if (dt_not (dt_truth (de_callF h__law_same (C.room.mono (by decide)) C.gd C.px rfl (da_cons (de_lst (da_cons (de_propP T.k_Kernel hq_Kernel_lanes (C.room.mono (by decide)) C.gd (dv 8)) (da_cons (de_propP T.k_Kernel hq_Kernel_statements (C.room.mono (by decide)) C.gd (dv 8)) (da_cons (de_propP T.k_Kernel hq_Kernel_barriers (C.room.mono (by decide)) C.gd (dv 8)) da_nil)))) (da_cons (de_lst (da_cons (dv 0) (da_cons (de_ix (dv 7) de_int) (da_cons (de_ix (dv 7) de_int) da_nil)))) da_nil))))) (dss_one (ds_ret de_bl)) dss_nil)
    (dss_one (ds_ret (de_andT (de_cmp (op_eqTo hm_Kernel___eq__ (C.room.mono (by decide)) C.gd) od_eqAny (dv 4) (de_makeI (x := "Kernel") hi_Kernel_0 (C.room.mono (by decide)) C.gd C.px rfl (da_cons (dv 0) (da_cons (de_ix (dv 1) de_int) (da_cons (de_ix (dv 1) de_int) da_nil)))) (nomark _)) (de_one (de_cmp (op_eqA C.room.units) od_eqA (de_propP T.k_Kernel hq_Kernel_barriers (C.room.mono (by decide)) C.gd (dv 5)) (de_ix (dv 2) de_int) (nomark _))))))))))))))) ok__law_sum_right
theorem dh__law_sum_right {P : Program} {w : World} {K : PySem.W.Frag} {mg : Str → Option Value} {base : Heap} {A : Cls} {fI f : Addr} {fd : FuncData} (T : Glob w K mg A fI) (h__law_same : Fd P w K mg base "_law_same" 1 ["told", "due"] (c__law_same A)) (hi_Kernel_0 : Im P w K mg base "Kernel" A.Kernel 4 ["self", "lanes", "statements", "barriers"] (c_Kernel___init__ A) []) (hm_Kernel___add__ : Mm P w K mg base A.Kernel "__add__" 6 ["self", "other"] (c_Kernel___add__ A)) (hm_Kernel___eq__ : Mm P w K mg base A.Kernel "__eq__" 1 ["self", "other"] (c_Kernel___eq__ A)) (hq_Kernel_barriers : Pp P w K mg base A.Kernel "barriers" 1 ["self"] (c_Kernel_barriers A)) (hq_Kernel_lanes : Pp P w K mg base A.Kernel "lanes" 1 ["self"] (c_Kernel_lanes A)) (hq_Kernel_statements : Pp P w K mg base A.Kernel "statements" 1 ["self"] (c_Kernel_statements A)) (F : Fun K "_law_sum_right" "_law_sum_right" s__law_sum_right f fd) (hm : mg "_law_sum_right" = some (.ref f)) : Fd P w K mg base "_law_sum_right" 7 ["many", "one", "two"] (c__law_sum_right A) := by
  exact ⟨_, _, (fd__law_sum_right T h__law_same hi_Kernel_0 hm_Kernel___add__ hm_Kernel___eq__ hq_Kernel_barriers hq_Kernel_lanes hq_Kernel_statements F), hm, F.kp, F.binds fun _ _ _ _ _ _ us hl => match us, hl with | [_, _, _], _ => rfl⟩
abbrev sc_N_law : List Str := ["script", "source", "turn", "many", "one", "two", "marks", "due", "changed"]
theorem sc_law : FnScope ["script", "source", "turn", "many", "one", "two", "marks", "due", "changed"] ["script"] (defScope s_law) := ⟨rfl, rfl, rfl, by decide +kernel, rfl, by decide +kernel, by decide +kernel⟩
theorem fd_lawG {P : Program} {w : World} {K : PySem.W.Frag} {mg : Str → Option Value} {base : Heap} {A : Cls} {fI f : Addr} {fd : FuncData} (T : Glob w K mg A fI) (hI_Kernel_1 : ImK P w K mg base "Kernel" A.Kernel 4 ["self", "lanes", "statements", "barriers"] (c_Kernel___init__ A) ["lanes", "statements"] [0, 1, 2] [.tup []]) (hM_with_barriers_0 : MmK P w K mg base A.Kernel "with_barriers" 6 ["self", "barriers"] (c_Kernel_with_barriers A) ["barriers"] [0] []) (h__law_draw : Fd P w K mg base "_law_draw" 1 ["source", "many"] (c__law_draw A)) (h__law_drawn : Fd P w K mg base "_law_drawn" 4 ["source", "many"] (c__law_drawn A)) (h__law_made_right : Fd P w K mg base "_law_made_right" 7 ["source", "many", "program", "places"] (c__law_made_right A)) (h__law_places : Fd P w K mg base "_law_places" 2 ["source", "many"] (c__law_places A)) (h__law_same : Fd P w K mg base "_law_same" 1 ["told", "due"] (c__law_same A)) (h__law_source : Fd P w K mg base "_law_source" 1 ["script"] (c__law_source A)) (h__law_sum_right : Fd P w K mg base "_law_sum_right" 7 ["many", "one", "two"] (c__law_sum_right A)) (hi_Kernel_0 : Im P w K mg base "Kernel" A.Kernel 4 ["self", "lanes", "statements", "barriers"] (c_Kernel___init__ A) []) (hi_Kernel_1 : Im P w K mg base "Kernel" A.Kernel 4 ["self", "lanes", "statements", "barriers"] (c_Kernel___init__ A) [.tup []]) (hm_Kernel___len__ : Mm P w K mg base A.Kernel "__len__" 1 ["self"] (c_Kernel___len__ A)) (hq_Kernel_barriers : Pp P w K mg base A.Kernel "barriers" 1 ["self"] (c_Kernel_barriers A)) (hq_Kernel_statements : Pp P w K mg base A.Kernel "statements" 1 ["self"] (c_Kernel_statements A)) (F : Fun K "law" "law" s_law f fd) : FnG P w K mg base 8 f fd ["script"] (LSp K (c_law A)) :=
  fnD_of (t := fun e => rd_law A (c_Kernel___init__ A) (c_Kernel___len__ A) (c_Kernel_barriers A) (c_Kernel_statements A) (c_Kernel_with_barriers A) (c__law_draw A) (c__law_drawn A) (c__law_made_right A) (c__law_places A) (c__law_same A) (c__law_source A) (c__law_sum_right A) e) F sc_law rfl len_law (fun cdv A0 outer s H E O e C tk ow => ((dss_cons (ds_asg (de_callF h__law_source (C.room.mono (by decide)) C.gd C.px rfl (da_cons (dv 0) da_nil)) (dg_name (i := 1) sc_law.nd rfl (Or.inl rfl)))
    (dss_cons (ds_for ow rfl (di_rw1 rfl T.z_range (da_cons (de_add de_int (de_callB (call_min2 rfl) cd_min2 rfl T.z_min (by decide +kernel) (da_cons de_int (da_cons (de_callB call_len cd_len rfl T.z_len PySem.boot_len (da_cons (dv 0) da_nil)) da_nil)))) da_nil)) (dg_name (i := 2) sc_law.nd rfl (Or.inl rfl)) (dss_cons (ds_asg (de_ix (de_lst (da_cons (de_add de_int (de_callF h__law_draw (C.room.mono (by decide)) C.gd C.px rfl (da_cons (dv 1) (da_cons de_int da_nil)))) (da_cons (de_pow de_int de_int) da_nil))) (de_callF h__law_draw (C.room.mono (by decide)) C.gd C.px rfl (da_cons (dv 1) (da_cons de_int da_nil)))) (dg_name (i := 3) sc_law.nd rfl (Or.inl rfl)))
    (dss_cons (ds_par (i := 4) (j := 5) rfl sc_law.nd rfl rfl (by decide) rfl rfl (da_cons (de_callF h__law_drawn (C.room.mono (by decide)) C.gd C.px rfl (da_cons (dv 1) (da_cons (dv 3) da_nil))) (da_cons (de_callF h__law_drawn (C.room.mono (by decide)) C.gd C.px rfl (da_cons (dv 1) (da_cons (dv 3) da_nil))) da_nil)))
    (dss_cons (ds_if (PW.pt (dw_or (dt_not (dt_truth (de_callF h__law_made_right (C.room.mono (by decide)) C.gd C.px rfl (da_cons (dv 1) (da_cons (dv 3) (da_cons (de_ix (dv 4) de_int) (da_cons (de_ix (dv 4) de_int) da_nil))))))) (dw_or1 (dt_not (dt_truth (de_callF h__law_sum_right (C.room.mono (by decide)) C.gd C.px rfl (da_cons (dv 3) (da_cons (dv 4) (da_cons (dv 5) da_nil))))))))) (dss_one (ds_ret de_bl)) dss_nil)
    (dss_cons (ds_asg (de_callF h__law_places (C.room.mono (by decide)) C.gd C.px rfl (da_cons (dv 1) (da_cons (de_callB call_len cd_len rfl T.z_len PySem.boot_len (da_cons (de_ix (dv 4) de_int) da_nil)) da_nil))) (dg_name (i := 6) sc_law.nd rfl (Or.inl rfl)))
    (dss_cons (ds_asg (de_callTy call_list_of cd_list rfl T.z_list (by decide +kernel) (da_cons (dv 6) da_nil)) (dg_name (i := 7) sc_law.nd rfl (Or.inl rfl)))
    (dss_cons (ds_asg (de_methK hM_with_barriers_0 T.k_Kernel (C.room.mono (by decide)) C.gd C.px (de_makeI (x := "Kernel") hi_Kernel_0 (C.room.mono (by decide)) C.gd C.px rfl (da_cons (dv 3) (da_cons (de_ix (dv 4) de_int) (da_cons (de_ix (dv 4) de_int) da_nil)))) (dk_cons (dv 6) dk_nil)) (dg_name (i := 8) sc_law.nd rfl (Or.inl rfl)))
    (dss_cons (ds_expr (de_append (pe_bm PySem.F.plainAttrs_list PySem.F.slot_list_append PySem.F.type_list_append mt_append (dv 6) (pa_cons de_int pa_nil))))
    (dss_one (ds_if (dt_not (dt_truth (de_callF h__law_same (C.room.mono (by decide)) C.gd C.px rfl (da_cons (de_lst (da_cons (de_propP T.k_Kernel hq_Kernel_statements (C.room.mono (by decide)) C.gd (dv 8)) (da_cons (de_propP T.k_Kernel hq_Kernel_barriers (C.room.mono (by decide)) C.gd (dv 8)) da_nil))) (da_cons (de_lst (da_cons (de_ix (dv 4) de_int) (da_cons (dv 7) da_nil))) da_nil))))) (dss_one (ds_ret de_bl)) dss_nil))))))))))
    (dss_one (ds_ret (de_andT (de_cmp (op_eqA C.room.units) od_eqA (de_callB ((call_lenOwn hm_Kernel___len__ (C.room.mono (by decide)) C.gd).or call_len) cd_lenX rfl T.z_len PySem.boot_len (da_cons (de_makeI (x := "Kernel") hi_Kernel_1 (C.room.mono (by decide)) C.gd C.px rfl (da_cons de_int (da_cons (de_lst da_nil) da_nil))) da_nil)) de_int (nomark _)) (de_one (de_cmp (op_eqA C.room.units) od_eqA (de_propP T.k_Kernel hq_Kernel_barriers (C.room.mono (by decide)) C.gd (de_makeK (x := "Kernel") hI_Kernel_1 (C.room.mono (by decide)) C.gd C.px rfl (dk_cons de_int (dk_cons (de_lst da_nil) dk_nil)))) (de_lst da_nil) (nomark _)))))))))) ok_law
def Ak (K : PySem.W.Frag) : Cls := ⟨(He.ga K "InvalidBarrier"), (He.ga K "InvalidLanes"), (He.ga K "InvalidNumber"), (He.ga K "InvalidStatement"), (He.ga K "UnlikeLanes"), (He.ga K "Kernel"), (He.ga K "ACCESSES"), (He.ga K "ARRAYS"), (He.ga K "ITEMS")⟩
theorem all_mk {l : PySem.W.OpenLaw} {w : World} {K : PySem.W.Frag} {h : Heap} {mg : Str → Option Value} {fa : Addr} (X : K.In h) (G : h.Ns mainGlobals mg) (hfa : mg "law" = some (.ref fa)) (c : SaysA exl fns tbs w K) :
    ∃ fd : FuncData, (∀ (s : Shared) (v : Value), BindsTo s fd ⟨[v], []⟩ [("script", v)]) ∧ ∀ base : Heap, K.In base → base.Ns mainGlobals mg → FnG l.prog w K mg base 8 fa fd ["script"] (LSp K spLawD) := by
  have hx := c.facts
  have e := hfa.symm.trans (PySem.W.mg_of X G (ex_at hx 165 (P := PySem.W.nsIn K mainGlobals "law" = some (some (.ref (He.ga K "law")))) rfl))
  cases e
  have hini := init_txt (c.at (i := 0) rfl).1 (c.at (i := 0) rfl).2 rfl rfl rfl rfl rfl rfl
  have TX_InvalidBarrier : PySem.ErrX.ErrTxt K mg "InvalidBarrier" (He.ga K "InvalidBarrier") (He.ma K (He.ga K "StrideError") "__init__") := { gC := (PySem.W.mg_of X G (ex_at hx 0 (P := PySem.W.nsIn K mainGlobals "InvalidBarrier" = some (some (.ref (He.ga K "InvalidBarrier")))) rfl)), cls := excB_ok (ex_at hx 1 (P := excB K (He.ga K "InvalidBarrier") = true) rfl), sa := (ex_at hx 2 (P := PySem.W.findIn K (.ref (He.ga K "InvalidBarrier")) "__setattr__" = some (some (.builtin "object.__setattr__"))) rfl), ga := (ex_at hx 3 (P := PySem.W.findIn K (.ref (He.ga K "InvalidBarrier")) "__getattribute__" = some (some (.builtin "BaseException.__getattribute__"))) rfl), gg := (ex_at hx 4 (P := PySem.W.findIn K (.ref (He.ga K "InvalidBarrier")) "__getattr__" = some none) rfl), noN := (ex_at hx 5 (P := PySem.W.findIn K (.ref (He.ga K "InvalidBarrier")) "value" = some none) rfl), iC := (ex_at hx 6 (P := PySem.W.findIn K (.ref (He.ga K "InvalidBarrier")) "__init__" = some (some (.ref (He.ma K (He.ga K "StrideError") "__init__")))) rfl), tC := (ex_at hx 7 (P := PySem.W.typeIn K (.ref (He.ma K (He.ga K "StrideError") "__init__")) = some (.type "function")) rfl), kC := (ex_at hx 8 (P := PySem.W.keepIn K (.ref (He.ga K "InvalidBarrier")) = true) rfl), exC := (ex_at hx 9 (P := PySem.W.subIn K (.ref (He.ga K "InvalidBarrier")) (.type "BaseException") = some true) rfl), tyC := (ex_at hx 10 (P := PySem.W.typeIn K (.ref (He.ga K "InvalidBarrier")) = some (.type "type")) rfl), hdC := (ex_at hx 11 (P := PySem.W.hasDictIn K (He.ga K "InvalidBarrier") = true) rfl), te := (ex_at hx 12 (P := PySem.W.exmOne K (.ref (He.ga K "InvalidBarrier")) (.ref (He.ga K "InvalidBarrier")) = some true) rfl), fn := hini }
  have TX_InvalidLanes : PySem.ErrX.ErrTxt K mg "InvalidLanes" (He.ga K "InvalidLanes") (He.ma K (He.ga K "StrideError") "__init__") := { gC := (PySem.W.mg_of X G (ex_at hx 13 (P := PySem.W.nsIn K mainGlobals "InvalidLanes" = some (some (.ref (He.ga K "InvalidLanes")))) rfl)), cls := excB_ok (ex_at hx 14 (P := excB K (He.ga K "InvalidLanes") = true) rfl), sa := (ex_at hx 15 (P := PySem.W.findIn K (.ref (He.ga K "InvalidLanes")) "__setattr__" = some (some (.builtin "object.__setattr__"))) rfl), ga := (ex_at hx 16 (P := PySem.W.findIn K (.ref (He.ga K "InvalidLanes")) "__getattribute__" = some (some (.builtin "BaseException.__getattribute__"))) rfl), gg := (ex_at hx 17 (P := PySem.W.findIn K (.ref (He.ga K "InvalidLanes")) "__getattr__" = some none) rfl), noN := (ex_at hx 18 (P := PySem.W.findIn K (.ref (He.ga K "InvalidLanes")) "value" = some none) rfl), iC := (ex_at hx 19 (P := PySem.W.findIn K (.ref (He.ga K "InvalidLanes")) "__init__" = some (some (.ref (He.ma K (He.ga K "StrideError") "__init__")))) rfl), tC := (ex_at hx 7 (P := PySem.W.typeIn K (.ref (He.ma K (He.ga K "StrideError") "__init__")) = some (.type "function")) rfl), kC := (ex_at hx 20 (P := PySem.W.keepIn K (.ref (He.ga K "InvalidLanes")) = true) rfl), exC := (ex_at hx 21 (P := PySem.W.subIn K (.ref (He.ga K "InvalidLanes")) (.type "BaseException") = some true) rfl), tyC := (ex_at hx 22 (P := PySem.W.typeIn K (.ref (He.ga K "InvalidLanes")) = some (.type "type")) rfl), hdC := (ex_at hx 23 (P := PySem.W.hasDictIn K (He.ga K "InvalidLanes") = true) rfl), te := (ex_at hx 24 (P := PySem.W.exmOne K (.ref (He.ga K "InvalidLanes")) (.ref (He.ga K "InvalidLanes")) = some true) rfl), fn := hini }
  have TX_InvalidNumber : PySem.ErrX.ErrTxt K mg "InvalidNumber" (He.ga K "InvalidNumber") (He.ma K (He.ga K "StrideError") "__init__") := { gC := (PySem.W.mg_of X G (ex_at hx 25 (P := PySem.W.nsIn K mainGlobals "InvalidNumber" = some (some (.ref (He.ga K "InvalidNumber")))) rfl)), cls := excB_ok (ex_at hx 26 (P := excB K (He.ga K "InvalidNumber") = true) rfl), sa := (ex_at hx 27 (P := PySem.W.findIn K (.ref (He.ga K "InvalidNumber")) "__setattr__" = some (some (.builtin "object.__setattr__"))) rfl), ga := (ex_at hx 28 (P := PySem.W.findIn K (.ref (He.ga K "InvalidNumber")) "__getattribute__" = some (some (.builtin "BaseException.__getattribute__"))) rfl), gg := (ex_at hx 29 (P := PySem.W.findIn K (.ref (He.ga K "InvalidNumber")) "__getattr__" = some none) rfl), noN := (ex_at hx 30 (P := PySem.W.findIn K (.ref (He.ga K "InvalidNumber")) "value" = some none) rfl), iC := (ex_at hx 31 (P := PySem.W.findIn K (.ref (He.ga K "InvalidNumber")) "__init__" = some (some (.ref (He.ma K (He.ga K "StrideError") "__init__")))) rfl), tC := (ex_at hx 7 (P := PySem.W.typeIn K (.ref (He.ma K (He.ga K "StrideError") "__init__")) = some (.type "function")) rfl), kC := (ex_at hx 32 (P := PySem.W.keepIn K (.ref (He.ga K "InvalidNumber")) = true) rfl), exC := (ex_at hx 33 (P := PySem.W.subIn K (.ref (He.ga K "InvalidNumber")) (.type "BaseException") = some true) rfl), tyC := (ex_at hx 34 (P := PySem.W.typeIn K (.ref (He.ga K "InvalidNumber")) = some (.type "type")) rfl), hdC := (ex_at hx 35 (P := PySem.W.hasDictIn K (He.ga K "InvalidNumber") = true) rfl), te := (ex_at hx 36 (P := PySem.W.exmOne K (.ref (He.ga K "InvalidNumber")) (.ref (He.ga K "InvalidNumber")) = some true) rfl), fn := hini }
  have TX_InvalidStatement : PySem.ErrX.ErrTxt K mg "InvalidStatement" (He.ga K "InvalidStatement") (He.ma K (He.ga K "StrideError") "__init__") := { gC := (PySem.W.mg_of X G (ex_at hx 37 (P := PySem.W.nsIn K mainGlobals "InvalidStatement" = some (some (.ref (He.ga K "InvalidStatement")))) rfl)), cls := excB_ok (ex_at hx 38 (P := excB K (He.ga K "InvalidStatement") = true) rfl), sa := (ex_at hx 39 (P := PySem.W.findIn K (.ref (He.ga K "InvalidStatement")) "__setattr__" = some (some (.builtin "object.__setattr__"))) rfl), ga := (ex_at hx 40 (P := PySem.W.findIn K (.ref (He.ga K "InvalidStatement")) "__getattribute__" = some (some (.builtin "BaseException.__getattribute__"))) rfl), gg := (ex_at hx 41 (P := PySem.W.findIn K (.ref (He.ga K "InvalidStatement")) "__getattr__" = some none) rfl), noN := (ex_at hx 42 (P := PySem.W.findIn K (.ref (He.ga K "InvalidStatement")) "value" = some none) rfl), iC := (ex_at hx 43 (P := PySem.W.findIn K (.ref (He.ga K "InvalidStatement")) "__init__" = some (some (.ref (He.ma K (He.ga K "StrideError") "__init__")))) rfl), tC := (ex_at hx 7 (P := PySem.W.typeIn K (.ref (He.ma K (He.ga K "StrideError") "__init__")) = some (.type "function")) rfl), kC := (ex_at hx 44 (P := PySem.W.keepIn K (.ref (He.ga K "InvalidStatement")) = true) rfl), exC := (ex_at hx 45 (P := PySem.W.subIn K (.ref (He.ga K "InvalidStatement")) (.type "BaseException") = some true) rfl), tyC := (ex_at hx 46 (P := PySem.W.typeIn K (.ref (He.ga K "InvalidStatement")) = some (.type "type")) rfl), hdC := (ex_at hx 47 (P := PySem.W.hasDictIn K (He.ga K "InvalidStatement") = true) rfl), te := (ex_at hx 48 (P := PySem.W.exmOne K (.ref (He.ga K "InvalidStatement")) (.ref (He.ga K "InvalidStatement")) = some true) rfl), fn := hini }
  have TX_UnlikeLanes : PySem.ErrX.ErrTxt K mg "UnlikeLanes" (He.ga K "UnlikeLanes") (He.ma K (He.ga K "StrideError") "__init__") := { gC := (PySem.W.mg_of X G (ex_at hx 49 (P := PySem.W.nsIn K mainGlobals "UnlikeLanes" = some (some (.ref (He.ga K "UnlikeLanes")))) rfl)), cls := excB_ok (ex_at hx 50 (P := excB K (He.ga K "UnlikeLanes") = true) rfl), sa := (ex_at hx 51 (P := PySem.W.findIn K (.ref (He.ga K "UnlikeLanes")) "__setattr__" = some (some (.builtin "object.__setattr__"))) rfl), ga := (ex_at hx 52 (P := PySem.W.findIn K (.ref (He.ga K "UnlikeLanes")) "__getattribute__" = some (some (.builtin "BaseException.__getattribute__"))) rfl), gg := (ex_at hx 53 (P := PySem.W.findIn K (.ref (He.ga K "UnlikeLanes")) "__getattr__" = some none) rfl), noN := (ex_at hx 54 (P := PySem.W.findIn K (.ref (He.ga K "UnlikeLanes")) "value" = some none) rfl), iC := (ex_at hx 55 (P := PySem.W.findIn K (.ref (He.ga K "UnlikeLanes")) "__init__" = some (some (.ref (He.ma K (He.ga K "StrideError") "__init__")))) rfl), tC := (ex_at hx 7 (P := PySem.W.typeIn K (.ref (He.ma K (He.ga K "StrideError") "__init__")) = some (.type "function")) rfl), kC := (ex_at hx 56 (P := PySem.W.keepIn K (.ref (He.ga K "UnlikeLanes")) = true) rfl), exC := (ex_at hx 57 (P := PySem.W.subIn K (.ref (He.ga K "UnlikeLanes")) (.type "BaseException") = some true) rfl), tyC := (ex_at hx 58 (P := PySem.W.typeIn K (.ref (He.ga K "UnlikeLanes")) = some (.type "type")) rfl), hdC := (ex_at hx 59 (P := PySem.W.hasDictIn K (He.ga K "UnlikeLanes") = true) rfl), te := (ex_at hx 60 (P := PySem.W.exmOne K (.ref (He.ga K "UnlikeLanes")) (.ref (He.ga K "UnlikeLanes")) = some true) rfl), fn := hini }
  have T : Glob w K mg (Ak K) (He.ma K (He.ga K "StrideError") "__init__") := ⟨TX_InvalidBarrier,
    TX_InvalidLanes,
    TX_InvalidNumber,
    TX_InvalidStatement,
    TX_UnlikeLanes,
    PySem.W.mg_none_of X G (ex_at hx 61 (P := PySem.W.nsIn K mainGlobals "abs" = some none) rfl),
    PySem.W.mg_none_of X G (ex_at hx 62 (P := PySem.W.nsIn K mainGlobals "all" = some none) rfl),
    PySem.W.mg_none_of X G (ex_at hx 63 (P := PySem.W.nsIn K mainGlobals "enumerate" = some none) rfl),
    PySem.W.mg_none_of X G (ex_at hx 64 (P := PySem.W.nsIn K mainGlobals "int" = some none) rfl),
    PySem.W.mg_none_of X G (ex_at hx 65 (P := PySem.W.nsIn K mainGlobals "isinstance" = some none) rfl),
    PySem.W.mg_none_of X G (ex_at hx 66 (P := PySem.W.nsIn K mainGlobals "len" = some none) rfl),
    PySem.W.mg_none_of X G (ex_at hx 67 (P := PySem.W.nsIn K mainGlobals "list" = some none) rfl),
    PySem.W.mg_none_of X G (ex_at hx 68 (P := PySem.W.nsIn K mainGlobals "min" = some none) rfl),
    PySem.W.mg_none_of X G (ex_at hx 69 (P := PySem.W.nsIn K mainGlobals "range" = some none) rfl),
    PySem.W.mg_none_of X G (ex_at hx 70 (P := PySem.W.nsIn K mainGlobals "repr" = some none) rfl),
    PySem.W.mg_none_of X G (ex_at hx 71 (P := PySem.W.nsIn K mainGlobals "str" = some none) rfl),
    PySem.W.mg_none_of X G (ex_at hx 72 (P := PySem.W.nsIn K mainGlobals "tuple" = some none) rfl),
    (let ⟨t, e⟩ := intB_ok (ex_at hx 73 (P := intB K mainGlobals "WRITTEN" 2 = true) rfl); ⟨t, PySem.W.mg_of X G e⟩),
    ⟨(ex_at hx 74 (P := PySem.W.plainGet K (He.ga K "Kernel") Str.empty = true) rfl), (ex_at hx 75 (P := PySem.W.hasDictIn K (He.ga K "Kernel") = true) rfl), (ex_at hx 76 (P := PySem.W.plainOver K (He.ga K "Kernel") = true) rfl), (ex_at hx 77 (P := PySem.W.findIn K (.ref (He.ga K "Kernel")) "__setattr__" = some (some (.builtin "object.__setattr__"))) rfl)⟩,
    (ex_at hx 78 (P := PySem.W.findIn K (.ref (He.ga K "Kernel")) "_barriers" = some none) rfl),
    (ex_at hx 79 (P := PySem.W.findIn K (.ref (He.ga K "Kernel")) "_lanes" = some none) rfl),
    (ex_at hx 80 (P := PySem.W.findIn K (.ref (He.ga K "Kernel")) "_racing" = some none) rfl),
    (ex_at hx 81 (P := PySem.W.findIn K (.ref (He.ga K "Kernel")) "_statements" = some none) rfl),
    ⟨(PySem.W.mg_of X G (ex_at hx 88 (P := PySem.W.nsIn K mainGlobals "ACCESSES" = some (some (.ref (He.ga K "ACCESSES")))) rfl)), c.tab 0 rfl, (hits_cons (ex_at hx 86 (P := PySem.W.nsIn K (He.ga K "ACCESSES") "put" = some (some (.ref (valAt K (He.ga K "ACCESSES") "put")))) rfl) (v := .ref (valAt K (He.ga K "ACCESSES") "put")) rfl (tupN_ok (ex_at hx 87 (P := tupN K (valAt K (He.ga K "ACCESSES") "put") [2] = true) rfl)) (hits_cons (ex_at hx 84 (P := PySem.W.nsIn K (He.ga K "ACCESSES") "move" = some (some (.ref (valAt K (He.ga K "ACCESSES") "move")))) rfl) (v := .ref (valAt K (He.ga K "ACCESSES") "move")) rfl (tupN_ok (ex_at hx 85 (P := tupN K (valAt K (He.ga K "ACCESSES") "move") [5, 2] = true) rfl)) (hits_cons (ex_at hx 82 (P := PySem.W.nsIn K (He.ga K "ACCESSES") "sum" = some (some (.ref (valAt K (He.ga K "ACCESSES") "sum")))) rfl) (v := .ref (valAt K (He.ga K "ACCESSES") "sum")) rfl (tupN_ok (ex_at hx 83 (P := tupN K (valAt K (He.ga K "ACCESSES") "sum") [5, 8, 2] = true) rfl)) hits_nil))), misses_nil⟩,
    ⟨(PySem.W.mg_of X G (ex_at hx 95 (P := PySem.W.nsIn K mainGlobals "ARRAYS" = some (some (.ref (He.ga K "ARRAYS")))) rfl)), c.tab 1 rfl, (hits_cons (ex_at hx 93 (P := PySem.W.nsIn K (He.ga K "ARRAYS") "put" = some (some (.ref (valAt K (He.ga K "ARRAYS") "put")))) rfl) (v := .ref (valAt K (He.ga K "ARRAYS") "put")) rfl (tupN_ok (ex_at hx 94 (P := tupN K (valAt K (He.ga K "ARRAYS") "put") [2] = true) rfl)) (hits_cons (ex_at hx 91 (P := PySem.W.nsIn K (He.ga K "ARRAYS") "move" = some (some (.ref (valAt K (He.ga K "ARRAYS") "move")))) rfl) (v := .ref (valAt K (He.ga K "ARRAYS") "move")) rfl (tupN_ok (ex_at hx 92 (P := tupN K (valAt K (He.ga K "ARRAYS") "move") [2, 5] = true) rfl)) (hits_cons (ex_at hx 89 (P := PySem.W.nsIn K (He.ga K "ARRAYS") "sum" = some (some (.ref (valAt K (He.ga K "ARRAYS") "sum")))) rfl) (v := .ref (valAt K (He.ga K "ARRAYS") "sum")) rfl (tupN_ok (ex_at hx 90 (P := tupN K (valAt K (He.ga K "ARRAYS") "sum") [2, 5, 8] = true) rfl)) hits_nil))), misses_nil⟩,
    ⟨(PySem.W.mg_of X G (ex_at hx 99 (P := PySem.W.nsIn K mainGlobals "ITEMS" = some (some (.ref (He.ga K "ITEMS")))) rfl)), c.tab 2 rfl, (hits_int (intB_ok (ex_at hx 98 (P := intB K (He.ga K "ITEMS") "put" 7 = true) rfl)) (hits_int (intB_ok (ex_at hx 97 (P := intB K (He.ga K "ITEMS") "move" 9 = true) rfl)) (hits_int (intB_ok (ex_at hx 96 (P := intB K (He.ga K "ITEMS") "sum" 11 = true) rfl)) hits_nil))), misses_nil⟩,
    ⟨(ex_at hx 100 (P := PySem.W.findIn K (.ref (He.ga K "Kernel")) "__ne__" = some (some (.builtin "object.__ne__"))) rfl), (ex_at hx 101 (P := PySem.W.mroIn K (He.ga K "Kernel") (.type "object") = some true) rfl)⟩,
    (ex_at hx 102 (P := PySem.W.selfFirst K (He.ga K "Kernel") = true) rfl),
    ⟨⟨(ex_at hx 74 (P := PySem.W.plainGet K (He.ga K "Kernel") Str.empty = true) rfl), (ex_at hx 75 (P := PySem.W.hasDictIn K (He.ga K "Kernel") = true) rfl), (ex_at hx 76 (P := PySem.W.plainOver K (He.ga K "Kernel") = true) rfl), (ex_at hx 77 (P := PySem.W.findIn K (.ref (He.ga K "Kernel")) "__setattr__" = some (some (.builtin "object.__setattr__"))) rfl)⟩, (ex_at hx 103 (P := PySem.W.findIn K (.ref (He.ga K "Kernel")) "__class__" = some (some (.builtin "object.__class__"))) rfl), (ex_at hx 104 (P := PySem.W.specialIn K (.builtin "object.__class__") "__get__" = some (some (.builtin "getset_descriptor.__get__"))) rfl), (ex_at hx 105 (P := PySem.W.takesIn K (.builtin "object.__class__") = some true) rfl), (ex_at hx 101 (P := PySem.W.mroIn K (He.ga K "Kernel") (.type "object") = some true) rfl), kit_self⟩,
    (PySem.W.mg_of X G (ex_at hx 106 (P := PySem.W.nsIn K mainGlobals "Kernel" = some (some (.ref (He.ga K "Kernel")))) rfl)),
    (ex_at hx 107 (P := PySem.W.isClsIn K (He.ga K "Kernel") = true) rfl),
    (ex_at hx 108 (P := PySem.W.typeIn K (.ref (He.ga K "Kernel")) = some (.type "type")) rfl),
    trivial⟩
  obtain ⟨fdl, Fl⟩ := c.fun 36 rfl rfl
  have hb : ∀ (s : Shared) (v : Value), BindsTo s fdl ⟨[v], []⟩ [("script", v)] := by
    obtain ⟨oc, od, kV, doc, pm, an, cdv, ct, osl, rfl, _, _⟩ := Fl.ex
    exact fun s v => .of_eq rfl
  refine ⟨fdl, hb, fun base _ _ => ?_⟩
  obtain ⟨fd_9, F_9⟩ := c.fun 9 rfl rfl
  have h_check_barriers : Fd l.prog w K mg base "check_barriers" 1 ["barriers", "many"] (c_check_barriers (Ak K)) := dh_check_barriers T F_9 (PySem.W.mg_of X G (ex_at hx 109 (P := PySem.W.nsIn K mainGlobals "check_barriers" = some (some (.ref (He.ga K "check_barriers")))) rfl))
  obtain ⟨fd_7, F_7⟩ := c.fun 7 rfl rfl
  have h_check_lanes : Fd l.prog w K mg base "check_lanes" 1 ["lanes"] (c_check_lanes (Ak K)) := dh_check_lanes T F_7 (PySem.W.mg_of X G (ex_at hx 110 (P := PySem.W.nsIn K mainGlobals "check_lanes" = some (some (.ref (He.ga K "check_lanes")))) rfl))
  obtain ⟨fd_2, F_2⟩ := c.fun 2 rfl rfl
  have h_is_array_name : Fd l.prog w K mg base "is_array_name" 1 ["name"] (c_is_array_name (Ak K)) := dh_is_array_name T F_2 (PySem.W.mg_of X G (ex_at hx 111 (P := PySem.W.nsIn K mainGlobals "is_array_name" = some (some (.ref (He.ga K "is_array_name")))) rfl))
  obtain ⟨fd_1, F_1⟩ := c.fun 1 rfl rfl
  have h_is_guard : Fd l.prog w K mg base "is_guard" 1 ["guard"] (c_is_guard (Ak K)) := dh_is_guard T F_1 (PySem.W.mg_of X G (ex_at hx 112 (P := PySem.W.nsIn K mainGlobals "is_guard" = some (some (.ref (He.ga K "is_guard")))) rfl))
  obtain ⟨fd_3, F_3⟩ := c.fun 3 rfl rfl
  have h_is_statement : Fd l.prog w K mg base "is_statement" 2 ["statement", "lanes"] (c_is_statement (Ak K)) := dh_is_statement T h_is_array_name h_is_guard F_3 (PySem.W.mg_of X G (ex_at hx 113 (P := PySem.W.nsIn K mainGlobals "is_statement" = some (some (.ref (He.ga K "is_statement")))) rfl))
  obtain ⟨fd_8, F_8⟩ := c.fun 8 rfl rfl
  have h_check_statement : Fd l.prog w K mg base "check_statement" 3 ["statement", "number", "lanes"] (c_check_statement (Ak K)) := dh_check_statement T h_is_statement F_8 (PySem.W.mg_of X G (ex_at hx 114 (P := PySem.W.nsIn K mainGlobals "check_statement" = some (some (.ref (He.ga K "check_statement")))) rfl))
  obtain ⟨fd_10, F_10⟩ := c.funD 10 rfl
  have hI_Kernel_1 : ImK l.prog w K mg base "Kernel" (Ak K).Kernel 4 ["self", "lanes", "statements", "barriers"] (c_Kernel___init__ (Ak K)) ["lanes", "statements"] [0, 1, 2] [.tup []] := dhI_Kernel_1 T h_check_barriers h_check_lanes h_check_statement F_10 ⟨(ex_at hx 116 (P := PySem.W.makesIn K (He.ga K "Kernel") = true) rfl), (ex_at hx 117 (P := PySem.W.findIn K (.ref (He.ga K "Kernel")) "__init__" = some (some (.ref (He.ma K (He.ga K "Kernel") "__init__")))) rfl), (ex_at hx 118 (P := PySem.W.isFn K (.ref (He.ma K (He.ga K "Kernel") "__init__")) = true) rfl), (ex_at hx 119 (P := PySem.W.keepIn K (.ref (He.ga K "Kernel")) = true) rfl)⟩ (PySem.W.mg_of X G (ex_at hx 106 (P := PySem.W.nsIn K mainGlobals "Kernel" = some (some (.ref (He.ga K "Kernel")))) rfl)) (tup0_ok (ex_at hx 115 (P := tupN K (dflOf K (He.ma K (He.ga K "Kernel") "__init__")) [] = true) rfl))
  have hi_Kernel_0 : Im l.prog w K mg base "Kernel" (Ak K).Kernel 4 ["self", "lanes", "statements", "barriers"] (c_Kernel___init__ (Ak K)) [] := dhi_Kernel_0 T h_check_barriers h_check_lanes h_check_statement F_10 ⟨(ex_at hx 116 (P := PySem.W.makesIn K (He.ga K "Kernel") = true) rfl), (ex_at hx 117 (P := PySem.W.findIn K (.ref (He.ga K "Kernel")) "__init__" = some (some (.ref (He.ma K (He.ga K "Kernel") "__init__")))) rfl), (ex_at hx 118 (P := PySem.W.isFn K (.ref (He.ma K (He.ga K "Kernel") "__init__")) = true) rfl), (ex_at hx 119 (P := PySem.W.keepIn K (.ref (He.ga K "Kernel")) = true) rfl)⟩ (PySem.W.mg_of X G (ex_at hx 106 (P := PySem.W.nsIn K mainGlobals "Kernel" = some (some (.ref (He.ga K "Kernel")))) rfl))
  obtain ⟨fd_17, F_17⟩ := c.fun 17 rfl rfl
  have hM_with_barriers_0 : MmK l.prog w K mg base (Ak K).Kernel "with_barriers" 6 ["self", "barriers"] (c_Kernel_with_barriers (Ak K)) ["barriers"] [0] [] := dhM_with_barriers_0 T hi_Kernel_0 F_17 ⟨(ex_at hx 120 (P := PySem.W.findIn K (.ref (He.ga K "Kernel")) "with_barriers" = some (some (.ref (He.ma K (He.ga K "Kernel") "with_barriers")))) rfl), (ex_at hx 121 (P := PySem.W.isFn K (.ref (He.ma K (He.ga K "Kernel") "with_barriers")) = true) rfl), (ex_at hx 122 (P := PySem.W.keepIn K (.ref (He.ma K (He.ga K "Kernel") "with_barriers")) = true) rfl)⟩
  obtain ⟨fd_21, F_21⟩ := c.fun 21 rfl rfl
  have h__law_draw : Fd l.prog w K mg base "_law_draw" 1 ["source", "many"] (c__law_draw (Ak K)) := dh__law_draw T F_21 (PySem.W.mg_of X G (ex_at hx 123 (P := PySem.W.nsIn K mainGlobals "_law_draw" = some (some (.ref (He.ga K "_law_draw")))) rfl))
  obtain ⟨fd_29, F_29⟩ := c.fun 29 rfl rfl
  have h__law_far_statement : Fd l.prog w K mg base "_law_far_statement" 1 ["source", "item"] (c__law_far_statement (Ak K)) := dh__law_far_statement T F_29 (PySem.W.mg_of X G (ex_at hx 124 (P := PySem.W.nsIn K mainGlobals "_law_far_statement" = some (some (.ref (He.ga K "_law_far_statement")))) rfl))
  obtain ⟨fd_30, F_30⟩ := c.fun 30 rfl rfl
  have h__law_name : Fd l.prog w K mg base "_law_name" 2 ["source"] (c__law_name (Ak K)) := dh__law_name T h__law_draw F_30 (PySem.W.mg_of X G (ex_at hx 125 (P := PySem.W.nsIn K mainGlobals "_law_name" = some (some (.ref (He.ga K "_law_name")))) rfl))
  obtain ⟨fd_26, F_26⟩ := c.fun 26 rfl rfl
  have h__law_places : Fd l.prog w K mg base "_law_places" 2 ["source", "many"] (c__law_places (Ak K)) := dh__law_places T h__law_draw F_26 (PySem.W.mg_of X G (ex_at hx 126 (P := PySem.W.nsIn K mainGlobals "_law_places" = some (some (.ref (He.ga K "_law_places")))) rfl))
  obtain ⟨fd_24, F_24⟩ := c.fun 24 rfl rfl
  have h__law_cell : Fd l.prog w K mg base "_law_cell" 2 ["source"] (c__law_cell (Ak K)) := dh__law_cell T h__law_draw F_24 (PySem.W.mg_of X G (ex_at hx 127 (P := PySem.W.nsIn K mainGlobals "_law_cell" = some (some (.ref (He.ga K "_law_cell")))) rfl))
  obtain ⟨fd_23, F_23⟩ := c.fun 23 rfl rfl
  have h__law_guard : Fd l.prog w K mg base "_law_guard" 2 ["source", "many"] (c__law_guard (Ak K)) := dh__law_guard T h__law_draw F_23 (PySem.W.mg_of X G (ex_at hx 128 (P := PySem.W.nsIn K mainGlobals "_law_guard" = some (some (.ref (He.ga K "_law_guard")))) rfl))
  obtain ⟨fd_25, F_25⟩ := c.fun 25 rfl rfl
  have h__law_statement : Fd l.prog w K mg base "_law_statement" 3 ["source", "many", "names_here"] (c__law_statement (Ak K)) := dh__law_statement T h__law_cell h__law_draw h__law_guard F_25 (PySem.W.mg_of X G (ex_at hx 129 (P := PySem.W.nsIn K mainGlobals "_law_statement" = some (some (.ref (He.ga K "_law_statement")))) rfl))
  obtain ⟨fd_32, F_32⟩ := c.fun 32 rfl rfl
  have h__law_drawn : Fd l.prog w K mg base "_law_drawn" 4 ["source", "many"] (c__law_drawn (Ak K)) := dh__law_drawn T h__law_draw h__law_far_statement h__law_name h__law_places h__law_statement F_32 (PySem.W.mg_of X G (ex_at hx 130 (P := PySem.W.nsIn K mainGlobals "_law_drawn" = some (some (.ref (He.ga K "_law_drawn")))) rfl))
  have hI_Kernel_0 : ImK l.prog w K mg base "Kernel" (Ak K).Kernel 4 ["self", "lanes", "statements", "barriers"] (c_Kernel___init__ (Ak K)) ["barriers", "statements", "lanes"] [2, 1, 0] [.tup []] := dhI_Kernel_0 T h_check_barriers h_check_lanes h_check_statement F_10 ⟨(ex_at hx 116 (P := PySem.W.makesIn K (He.ga K "Kernel") = true) rfl), (ex_at hx 117 (P := PySem.W.findIn K (.ref (He.ga K "Kernel")) "__init__" = some (some (.ref (He.ma K (He.ga K "Kernel") "__init__")))) rfl), (ex_at hx 118 (P := PySem.W.isFn K (.ref (He.ma K (He.ga K "Kernel") "__init__")) = true) rfl), (ex_at hx 119 (P := PySem.W.keepIn K (.ref (He.ga K "Kernel")) = true) rfl)⟩ (PySem.W.mg_of X G (ex_at hx 106 (P := PySem.W.nsIn K mainGlobals "Kernel" = some (some (.ref (He.ga K "Kernel")))) rfl)) (tup0_ok (ex_at hx 115 (P := tupN K (dflOf K (He.ma K (He.ga K "Kernel") "__init__")) [] = true) rfl))
  obtain ⟨fd_27, F_27⟩ := c.fun 27 rfl rfl
  have h__law_parts : Fd l.prog w K mg base "_law_parts" 1 ["program"] (c__law_parts (Ak K)) := dh__law_parts T F_27 (PySem.W.mg_of X G (ex_at hx 131 (P := PySem.W.nsIn K mainGlobals "_law_parts" = some (some (.ref (He.ga K "_law_parts")))) rfl))
  obtain ⟨fd_28, F_28⟩ := c.fun 28 rfl rfl
  have h__law_phase : Fd l.prog w K mg base "_law_phase" 1 ["places", "spot"] (c__law_phase (Ak K)) := dh__law_phase T F_28 (PySem.W.mg_of X G (ex_at hx 132 (P := PySem.W.nsIn K mainGlobals "_law_phase" = some (some (.ref (He.ga K "_law_phase")))) rfl))
  obtain ⟨fd_22, F_22⟩ := c.fun 22 rfl rfl
  have h__law_same : Fd l.prog w K mg base "_law_same" 1 ["told", "due"] (c__law_same (Ak K)) := dh__law_same T F_22 (PySem.W.mg_of X G (ex_at hx 133 (P := PySem.W.nsIn K mainGlobals "_law_same" = some (some (.ref (He.ga K "_law_same")))) rfl))
  obtain ⟨fd_4, F_4⟩ := c.fun 4 rfl rfl
  have h_access_at : Fd l.prog w K mg base "access_at" 1 ["statement", "number", "place"] (c_access_at (Ak K)) := dh_access_at T F_4 (PySem.W.mg_of X G (ex_at hx 134 (P := PySem.W.nsIn K mainGlobals "access_at" = some (some (.ref (He.ga K "access_at")))) rfl))
  obtain ⟨fd_5, F_5⟩ := c.fun 5 rfl rfl
  have h_accesses_of : Fd l.prog w K mg base "accesses_of" 2 ["statements"] (c_accesses_of (Ak K)) := dh_accesses_of T h_access_at F_5 (PySem.W.mg_of X G (ex_at hx 135 (P := PySem.W.nsIn K mainGlobals "accesses_of" = some (some (.ref (He.ga K "accesses_of")))) rfl))
  obtain ⟨fd_12, F_12⟩ := c.fun 12 rfl rfl
  have hq_Kernel_statements : Pp l.prog w K mg base (Ak K).Kernel "statements" 1 ["self"] (c_Kernel_statements (Ak K)) := dhq_Kernel_statements T F_12 ⟨(ex_at hx 136 (P := PySem.W.findIn K (.ref (He.ga K "Kernel")) "statements" = some (some (.ref (He.ma K (He.ga K "Kernel") "statements")))) rfl), (ex_at hx 137 (P := PySem.W.specialIn K (.ref (He.ma K (He.ga K "Kernel") "statements")) "__get__" = some (some (.builtin "property.__get__"))) rfl), (ex_at hx 138 (P := PySem.W.takesIn K (.ref (He.ma K (He.ga K "Kernel") "statements")) = some true) rfl), recB_ok (ex_at hx 139 (P := recB K (He.ma K (He.ga K "Kernel") "statements") = true) rfl)⟩
  obtain ⟨fd_18, F_18⟩ := c.fun 18 rfl rfl
  have h_accesses : Fd l.prog w K mg base "accesses" 3 ["kernel"] (c_accesses (Ak K)) := dh_accesses T h_accesses_of hq_Kernel_statements F_18 (PySem.W.mg_of X G (ex_at hx 140 (P := PySem.W.nsIn K mainGlobals "accesses" = some (some (.ref (He.ga K "accesses")))) rfl))
  obtain ⟨fd_6, F_6⟩ := c.fun 6 rfl rfl
  have h_count_up_to : Fd l.prog w K mg base "count_up_to" 1 ["barriers", "statement"] (c_count_up_to (Ak K)) := dh_count_up_to T F_6 (PySem.W.mg_of X G (ex_at hx 141 (P := PySem.W.nsIn K mainGlobals "count_up_to" = some (some (.ref (He.ga K "count_up_to")))) rfl))
  obtain ⟨fd_14, F_14⟩ := c.fun 14 rfl rfl
  have hm_Kernel___len__ : Mm l.prog w K mg base (Ak K).Kernel "__len__" 1 ["self"] (c_Kernel___len__ (Ak K)) := dhm_Kernel___len__ T F_14 ⟨(ex_at hx 142 (P := PySem.W.findIn K (.ref (He.ga K "Kernel")) "__len__" = some (some (.ref (He.ma K (He.ga K "Kernel") "__len__")))) rfl), (ex_at hx 143 (P := PySem.W.isFn K (.ref (He.ma K (He.ga K "Kernel") "__len__")) = true) rfl), (ex_at hx 144 (P := PySem.W.keepIn K (.ref (He.ma K (He.ga K "Kernel") "__len__")) = true) rfl)⟩
  obtain ⟨fd_13, F_13⟩ := c.fun 13 rfl rfl
  have hq_Kernel_barriers : Pp l.prog w K mg base (Ak K).Kernel "barriers" 1 ["self"] (c_Kernel_barriers (Ak K)) := dhq_Kernel_barriers T F_13 ⟨(ex_at hx 145 (P := PySem.W.findIn K (.ref (He.ga K "Kernel")) "barriers" = some (some (.ref (He.ma K (He.ga K "Kernel") "barriers")))) rfl), (ex_at hx 146 (P := PySem.W.specialIn K (.ref (He.ma K (He.ga K "Kernel") "barriers")) "__get__" = some (some (.builtin "property.__get__"))) rfl), (ex_at hx 147 (P := PySem.W.takesIn K (.ref (He.ma K (He.ga K "Kernel") "barriers")) = some true) rfl), recB_ok (ex_at hx 148 (P := recB K (He.ma K (He.ga K "Kernel") "barriers") = true) rfl)⟩
  obtain ⟨fd_19, F_19⟩ := c.fun 19 rfl rfl
  have h_phase_of : Fd l.prog w K mg base "phase_of" 3 ["kernel", "statement"] (c_phase_of (Ak K)) := dh_phase_of T h_count_up_to hm_Kernel___len__ hq_Kernel_barriers F_19 (PySem.W.mg_of X G (ex_at hx 149 (P := PySem.W.nsIn K mainGlobals "phase_of" = some (some (.ref (He.ga K "phase_of")))) rfl))
  have hk_accesses_0 : FdX l.prog w K mg base "accesses" 3 ["kernel"] (c_accesses (Ak K)) ["kernel"] 0 [0] [] := dhk_accesses_0 T h_accesses_of hq_Kernel_statements F_18 (PySem.W.mg_of X G (ex_at hx 140 (P := PySem.W.nsIn K mainGlobals "accesses" = some (some (.ref (He.ga K "accesses")))) rfl))
  have hk_phase_of_1 : FdX l.prog w K mg base "phase_of" 3 ["kernel", "statement"] (c_phase_of (Ak K)) ["statement", "kernel"] 0 [1, 0] [] := dhk_phase_of_1 T h_count_up_to hm_Kernel___len__ hq_Kernel_barriers F_19 (PySem.W.mg_of X G (ex_at hx 149 (P := PySem.W.nsIn K mainGlobals "phase_of" = some (some (.ref (He.ga K "phase_of")))) rfl))
  obtain ⟨fd_33, F_33⟩ := c.fun 33 rfl rfl
  have h__law_accesses_right : Fd l.prog w K mg base "_law_accesses_right" 4 ["one", "program", "places"] (c__law_accesses_right (Ak K)) := dh__law_accesses_right T h__law_parts h__law_phase h__law_same h_accesses h_phase_of hk_accesses_0 hk_phase_of_1 F_33 (PySem.W.mg_of X G (ex_at hx 150 (P := PySem.W.nsIn K mainGlobals "_law_accesses_right" = some (some (.ref (He.ga K "_law_accesses_right")))) rfl))
  obtain ⟨fd_31, F_31⟩ := c.fun 31 rfl rfl
  have h__law_bent : Fd l.prog w K mg base "_law_bent" 3 ["source", "program"] (c__law_bent (Ak K)) := dh__law_bent T h__law_draw h__law_name F_31 (PySem.W.mg_of X G (ex_at hx 151 (P := PySem.W.nsIn K mainGlobals "_law_bent" = some (some (.ref (He.ga K "_law_bent")))) rfl))
  obtain ⟨fd_15, F_15⟩ := c.fun 15 rfl rfl
  have hm_Kernel___eq__ : Mm l.prog w K mg base (Ak K).Kernel "__eq__" 1 ["self", "other"] (c_Kernel___eq__ (Ak K)) := dhm_Kernel___eq__ T F_15 ⟨(ex_at hx 152 (P := PySem.W.findIn K (.ref (He.ga K "Kernel")) "__eq__" = some (some (.ref (He.ma K (He.ga K "Kernel") "__eq__")))) rfl), (ex_at hx 153 (P := PySem.W.isFn K (.ref (He.ma K (He.ga K "Kernel") "__eq__")) = true) rfl), (ex_at hx 154 (P := PySem.W.keepIn K (.ref (He.ma K (He.ga K "Kernel") "__eq__")) = true) rfl)⟩
  have hm_Kernel_with_barriers : Mm l.prog w K mg base (Ak K).Kernel "with_barriers" 6 ["self", "barriers"] (c_Kernel_with_barriers (Ak K)) := dhm_Kernel_with_barriers T hi_Kernel_0 F_17 ⟨(ex_at hx 120 (P := PySem.W.findIn K (.ref (He.ga K "Kernel")) "with_barriers" = some (some (.ref (He.ma K (He.ga K "Kernel") "with_barriers")))) rfl), (ex_at hx 121 (P := PySem.W.isFn K (.ref (He.ma K (He.ga K "Kernel") "with_barriers")) = true) rfl), (ex_at hx 122 (P := PySem.W.keepIn K (.ref (He.ma K (He.ga K "Kernel") "with_barriers")) = true) rfl)⟩
  obtain ⟨fd_11, F_11⟩ := c.fun 11 rfl rfl
  have hq_Kernel_lanes : Pp l.prog w K mg base (Ak K).Kernel "lanes" 1 ["self"] (c_Kernel_lanes (Ak K)) := dhq_Kernel_lanes T F_11 ⟨(ex_at hx 155 (P := PySem.W.findIn K (.ref (He.ga K "Kernel")) "lanes" = some (some (.ref (He.ma K (He.ga K "Kernel") "lanes")))) rfl), (ex_at hx 156 (P := PySem.W.specialIn K (.ref (He.ma K (He.ga K "Kernel") "lanes")) "__get__" = some (some (.builtin "property.__get__"))) rfl), (ex_at hx 157 (P := PySem.W.takesIn K (.ref (He.ma K (He.ga K "Kernel") "lanes")) = some true) rfl), recB_ok (ex_at hx 158 (P := recB K (He.ma K (He.ga K "Kernel") "lanes") = true) rfl)⟩
  obtain ⟨fd_34, F_34⟩ := c.fun 34 rfl rfl
  have h__law_made_right : Fd l.prog w K mg base "_law_made_right" 7 ["source", "many", "program", "places"] (c__law_made_right (Ak K)) := dh__law_made_right T hI_Kernel_0 h__law_accesses_right h__law_bent h__law_same hi_Kernel_0 hm_Kernel___eq__ hm_Kernel___len__ hm_Kernel_with_barriers hq_Kernel_barriers hq_Kernel_lanes hq_Kernel_statements F_34 (PySem.W.mg_of X G (ex_at hx 159 (P := PySem.W.nsIn K mainGlobals "_law_made_right" = some (some (.ref (He.ga K "_law_made_right")))) rfl))
  obtain ⟨fd_20, F_20⟩ := c.fun 20 rfl rfl
  have h__law_source : Fd l.prog w K mg base "_law_source" 1 ["script"] (c__law_source (Ak K)) := dh__law_source T F_20 (PySem.W.mg_of X G (ex_at hx 160 (P := PySem.W.nsIn K mainGlobals "_law_source" = some (some (.ref (He.ga K "_law_source")))) rfl))
  obtain ⟨fd_16, F_16⟩ := c.fun 16 rfl rfl
  have hm_Kernel___add__ : Mm l.prog w K mg base (Ak K).Kernel "__add__" 6 ["self", "other"] (c_Kernel___add__ (Ak K)) := dhm_Kernel___add__ T hi_Kernel_0 F_16 ⟨(ex_at hx 161 (P := PySem.W.findIn K (.ref (He.ga K "Kernel")) "__add__" = some (some (.ref (He.ma K (He.ga K "Kernel") "__add__")))) rfl), (ex_at hx 162 (P := PySem.W.isFn K (.ref (He.ma K (He.ga K "Kernel") "__add__")) = true) rfl), (ex_at hx 163 (P := PySem.W.keepIn K (.ref (He.ma K (He.ga K "Kernel") "__add__")) = true) rfl)⟩
  obtain ⟨fd_35, F_35⟩ := c.fun 35 rfl rfl
  have h__law_sum_right : Fd l.prog w K mg base "_law_sum_right" 7 ["many", "one", "two"] (c__law_sum_right (Ak K)) := dh__law_sum_right T h__law_same hi_Kernel_0 hm_Kernel___add__ hm_Kernel___eq__ hq_Kernel_barriers hq_Kernel_lanes hq_Kernel_statements F_35 (PySem.W.mg_of X G (ex_at hx 164 (P := PySem.W.nsIn K mainGlobals "_law_sum_right" = some (some (.ref (He.ga K "_law_sum_right")))) rfl))
  have hi_Kernel_1 : Im l.prog w K mg base "Kernel" (Ak K).Kernel 4 ["self", "lanes", "statements", "barriers"] (c_Kernel___init__ (Ak K)) [.tup []] := dhi_Kernel_1 T h_check_barriers h_check_lanes h_check_statement F_10 ⟨(ex_at hx 116 (P := PySem.W.makesIn K (He.ga K "Kernel") = true) rfl), (ex_at hx 117 (P := PySem.W.findIn K (.ref (He.ga K "Kernel")) "__init__" = some (some (.ref (He.ma K (He.ga K "Kernel") "__init__")))) rfl), (ex_at hx 118 (P := PySem.W.isFn K (.ref (He.ma K (He.ga K "Kernel") "__init__")) = true) rfl), (ex_at hx 119 (P := PySem.W.keepIn K (.ref (He.ga K "Kernel")) = true) rfl)⟩ (PySem.W.mg_of X G (ex_at hx 106 (P := PySem.W.nsIn K mainGlobals "Kernel" = some (some (.ref (He.ga K "Kernel")))) rfl)) (tup0_ok (ex_at hx 115 (P := tupN K (dflOf K (He.ma K (He.ga K "Kernel") "__init__")) [] = true) rfl))
  exact fd_lawG T hI_Kernel_1 hM_with_barriers_0 h__law_draw h__law_drawn h__law_made_right h__law_places h__law_same h__law_source h__law_sum_right hi_Kernel_0 hi_Kernel_1 hm_Kernel___len__ hq_Kernel_barriers hq_Kernel_statements Fl
end Law
open PySem PySem.W PySem.Calls PyProof.Rows
set_option maxRecDepth 100000 in
set_option maxHeartbeats 0 in
theorem PySem.Challenge.cw_stridelanes_k05_kernels_made_holds : PySem.Challenge.rw_stridelanes_k05_kernels_made.Holds := by
  w_on; o_law
  refine HandSHeadRun.head_any (r := Law.Rw) (q := Law.vw) (H := Law.hk) (ob := Law.ob) (M := 40000) (loose := Law.names) (d := HandSHeadRun.topDef Law.Rw.prog 47) (kwd := []) Law.ob_eq
    (by kernel_rfl) (fun s => by kernel_rfl) Law.run (by kernel_rfl) (by kernel_rfl) (by kernel_rfl) (by rfl) (by first | assumption | decide +kernel) (by decide +kernel) ⟨rfl, rfl, rfl, rfl, rfl, by decide +kernel⟩ ?hw ?hc
  case hw => w_witness2
  case hc =>
    refine DL.walkA (l := PySem.Challenge.rw_stridelanes_k05_kernels_made) (k := 8) (x := "script") rfl (by kernel_rfl) ⟨rfl, by decide, by decide⟩ ?F
    intro w mg fa h Y G hmg0
    obtain ⟨K, KX, c⟩ := Y
    have hmg : mg ("law" : PySem.Str) = some (.ref fa) := by
      have e : (HandSHeadRun.topDef Law.Rw.prog 47).name = ("law" : PySem.Str) := by kernel_rfl
      rw [← e]
      exact hmg0
    obtain ⟨fd, hb, hF⟩ := Law.all_mk (l := PySem.Challenge.rw_stridelanes_k05_kernels_made) (w := w) KX G hmg c
    exact ⟨K, fd, KX, hb, hF⟩

