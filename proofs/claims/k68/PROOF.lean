import PyProof.Rows.All
import Wide.All
import OpenK.AllK
import Wide.FinOn
import Lean
import PyProof.EqAt
import PyProof.EqKinds
import PyProof.TupleCall
import PyProof.NeKinds
import PyProof.ReprRoads
import PyProof.ReprLen
import PyProof.Rows.RegStrFacts
import PyProof.Draws
import PyProof.EnumStmt
import PyProof.ZipIter
import PyProof.ListNew
import PyProof.TupleOfGen
import PyProof.ListRange
import PyProof.Rows.Range3
import PyProof.SumWalkG
import PyProof.Rows.RuleB_lshift
import PyProof.AutoSeq1
import PyProof.Cells
import PyProof.AutoListH
import PyProof.DictTable
import PyProof.RulesAs
import PyProof.NsDelKeeps
import KE.KDictList
import PyProof.DictCompW
import KE.KSortTup
import PyProof.DictWalks
import PySem.Challenge.RW_joinedasks_k68_whole_clamped_adds
set_option Elab.async false
set_option linter.all false
set_option maxRecDepth 100000
namespace L2
open PySem PySem.Spec PyProof.Rows

abbrev Key := Sum Int Str
def keyIs : Key → Value → Bool
  | .inl k, v => Value.isInt k v
  | .inr x, v => Value.isStrOf x v
def keyH (w : World) : Key → Int
  | .inl k => hashInt k
  | .inr x => hashStr w x
theorem keyIs_shape : ∀ {k : Key} {v : Value}, keyIs k v = true → (∃ i t, k = Sum.inl i ∧ v = Value.int i t) ∨ (∃ x t, k = Sum.inr x ∧ v = Value.str x t)
  | .inl i, v, h => by
    obtain ⟨t, e⟩ := Value.isInt_shape (k := i) (v := v) h
    exact .inl ⟨i, t, rfl, e⟩
  | .inr x, v, h => by
    obtain ⟨t, e⟩ := Value.isStrOf_shape (x := x) (v := v) h
    exact .inr ⟨x, t, rfl, e⟩
theorem keyIs_int (i : Int) (t : Tok) : keyIs (.inl i) (.int i t) = true := by simp [keyIs, Value.isInt]
theorem keyIs_str (x : Str) (t : Tok) : keyIs (.inr x) (.str x t) = true := by simp [keyIs, Value.isStrOf]
theorem key_ll (a b : Int) : decide ((Sum.inl a : Key) = Sum.inl b) = (a == b) := by
  by_cases e : a = b
  · subst e; simp
  · have h : ¬ (Sum.inl a : Key) = Sum.inl b := fun q => e (Sum.inl.inj q)
    rw [decide_eq_false h]
    exact (beq_eq_false_iff_ne.mpr e).symm
theorem key_rr (a b : Str) : decide ((Sum.inr a : Key) = Sum.inr b) = decide (a = b) := by
  by_cases e : a = b
  · subst e; simp
  · have h : ¬ (Sum.inr a : Key) = Sum.inr b := fun q => e (Sum.inr.inj q)
    rw [decide_eq_false h, decide_eq_false e]
theorem key_lr (a : Int) (b : Str) : decide ((Sum.inl a : Key) = Sum.inr b) = false := decide_eq_false (fun q => nomatch q)
theorem key_rl (a : Str) (b : Int) : decide ((Sum.inr a : Key) = Sum.inl b) = false := decide_eq_false (fun q => nomatch q)

def mixKind (prog : Program) (w : World) : PySem.KeyKind prog w Key where
  is := keyIs
  hash := keyH w
  inj := fun v a b ha hb => by
    rcases keyIs_shape ha with ⟨i, t, rfl, rfl⟩ | ⟨x, t, rfl, rfl⟩
    · rcases keyIs_shape hb with ⟨j, u, rfl, e⟩ | ⟨y, u, rfl, e⟩
      · injection e with e1 _; rw [e1]
      · exact nomatch e
    · rcases keyIs_shape hb with ⟨j, u, rfl, e⟩ | ⟨y, u, rfl, e⟩
      · exact nomatch e
      · injection e with e1 _; rw [e1]
  byValue := fun k v h => by
    rcases keyIs_shape h with ⟨i, t, rfl, rfl⟩ | ⟨x, t, rfl, rfl⟩ <;> rfl
  pyHash := fun hv h => by
    rcases keyIs_shape hv with ⟨i, t, rfl, rfl⟩ | ⟨x, t, rfl, rfl⟩
    · exact wpAny_pyHash_int h
    · exact wpAny_pyHash_str h
  eqBool := fun hu hv h => by
    rcases keyIs_shape hu with ⟨i, t, rfl, rfl⟩ | ⟨x, t, rfl, rfl⟩
    · rcases keyIs_shape hv with ⟨j, u, rfl, rfl⟩ | ⟨y, u, rfl, rfl⟩
      · rw [key_ll] at h; exact wpAny_eqBool_int h
      · rw [key_lr] at h; exact SeqAt.EqAt.int_str i t y u _ _ _ _ h
    · rcases keyIs_shape hv with ⟨j, u, rfl, rfl⟩ | ⟨y, u, rfl, rfl⟩
      · rw [key_rl] at h; exact SeqAt.EqAt.str_int x t j u _ _ _ _ h
      · rw [key_rr] at h; exact wpAny_eqBool_str h
  «strs» := fun k x t v h => by
    rcases keyIs_shape h with ⟨i, u, rfl, e⟩ | ⟨y, u, rfl, e⟩
    · exact nomatch e
    · injection e with e1 _
      subst e1
      cases v <;> rfl

theorem mixKind_int (prog : Program) (w : World) (i : Int) (t : Tok) : (mixKind prog w).is (.inl i) (.int i t) = true := keyIs_int i t
theorem mixKind_str (prog : Program) (w : World) (x : Str) (t : Tok) : (mixKind prog w).is (.inr x) (.str x t) = true := keyIs_str x t
end L2

namespace L2
open PySem PySem.Spec PyProof.Rows

inductive V where
  | non | bl (b : Bool) | int (i : Int) | str (x : Str) | byt (b : Array UInt8) | flt (b : UInt64) | ref (a : Addr) | ty (n : String)
  deriving DecidableEq

def RelV : V → Value → Prop
  | .non, u => u = Value.none
  | .bl b, u => u = Value.bool b
  | .int i, u => ∃ t, u = Value.int i t
  | .str x, u => ∃ t, u = Value.str x t
  | .byt b, u => ∃ t, u = Value.bytes b t
  | .flt b, u => ∃ t, u = Value.float b t
  | .ref a, u => u = Value.ref a
  | .ty n, u => u = Value.type n

abbrev Vals : List V → List Value → Prop := Paired RelV
theorem Vals.length {xs : List V} {us : List Value} (r : Vals xs us) : xs.length = us.length := Paired.length r
theorem Vals.get : ∀ {xs : List V} {us : List Value} {i : Nat} {x : V}, Vals xs us → xs[i]? = some x → ∃ u, us[i]? = some u ∧ RelV x u
  | _, _, _, _, .nil, e => by simp at e
  | _, _, 0, _, .cons r _, e => by simp at e; subst e; exact ⟨_, rfl, r⟩
  | _, _, i + 1, x, .cons _ t, e => by
    obtain ⟨u, h1, h2⟩ := Vals.get (i := i) (x := x) t (by simpa using e)
    exact ⟨u, by simpa using h1, h2⟩
theorem Vals.set {x : V} {u : Value} (r : RelV x u) : ∀ {xs : List V} {us : List Value} (i : Nat), Vals xs us → Vals (xs.set i x) (us.set i u)
  | _, _, _, .nil => .nil
  | _, _, 0, .cons _ t => .cons r t
  | _, _, i + 1, .cons q t => .cons q (Vals.set r i t)
theorem Vals.append : ∀ {xs ys : List V} {us ws : List Value}, Vals xs us → Vals ys ws → Vals (xs ++ ys) (us ++ ws)
  | _, _, _, _, .nil, s => s
  | _, _, _, _, .cons r t, s => .cons r (Vals.append t s)
theorem Vals.take : ∀ {xs : List V} {us : List Value} (n : Nat), Vals xs us → Vals (xs.take n) (us.take n)
  | _, _, 0, _ => .nil
  | _, _, _ + 1, .nil => .nil
  | _, _, n + 1, .cons r t => .cons r (Vals.take n t)
theorem Vals.drop : ∀ {xs : List V} {us : List Value} (n : Nat), Vals xs us → Vals (xs.drop n) (us.drop n)
  | _, _, 0, r => r
  | _, _, _ + 1, .nil => .nil
  | _, _, n + 1, .cons _ t => Vals.drop n t

def RelO : Option V → Option Value → Prop
  | some v, some u => RelV v u
  | none, none => True
  | _, _ => False
def KV {κ : Type} : List (κ × V) → List (κ × Value) → Prop := Paired fun (p : κ × V) (q : κ × Value) => p.1 = q.1 ∧ RelV p.2 q.2

def kV : Key → V
  | .inl i => .int i
  | .inr x => .str x

inductive HO where
  /-- a list -/
  | lst (xs : List V)
  /-- a tuple (never changes) -/
  | tup (xs : List V)
  /-- a dict whose keys are ints and texts; one whose keys are tuples of ints and texts (the empty one is both) -/
  | dK (kvs : List (Key × V)) | dT (kvs : List (List Key × V))
  /-- a set of ints: its members, its size -/
  | set (S : Int → Bool) (n : Nat)
  /-- an instance of the class at C, its dict at dx, its attributes -/
  | ins (C dx : Addr) (fs : List (Str × V))
  /-- the dict of the instance at x -/
  | own (x : Addr)
  /-- the dict of an exception -/
  | xd (fs : List (Str × V))
  /-- a bound method, f of x -/
  | met (f x : Addr)
  /-- a range object lo, lo + 1, .. below hi -/
  | rng (lo hi : Int)
  /-- a thing that is known to the object (the script; a dict while a loop walks it): read, never written while it is so -/
  | frz (o : Obj) (u : HO)
  /-- a code object's table -/
  | tbl (ps : Array Value)
  /-- any other thing, by what is true of its one object (a def of one's own: SetO a S n := HO.ext fun h => ..) -/
  | ext (φ : Heap → Prop)

abbrev Hp := Addr → Option HO
def upd (H : Hp) (a : Addr) (o : HO) : Hp := fun b => if b = a then some o else H b
theorem upd_same {H : Hp} {a : Addr} {o : HO} : upd H a o a = some o := by unfold upd; rw [if_pos rfl]
theorem upd_ne {H : Hp} {a b : Addr} {o : HO} (h : b ≠ a) : upd H a o b = H b := by unfold upd; rw [if_neg h]
theorem ne_of {H : Hp} {a b : Addr} {o u : HO} (h : H a = some o) (h' : H b = some u) (d : o ≠ u) : a ≠ b := by
  intro e; subst e; rw [h] at h'; exact d (Option.some.inj h')
theorem ne_of_none {H : Hp} {a b : Addr} {o : HO} (h : H a = some o) (h' : H b = none) : a ≠ b := by
  intro e; subst e; rw [h] at h'; cases h'

section
variable (P : Program) (w : World)
def ObjOk (H : Hp) (h : Heap) (a : Addr) : HO → Prop
  | .lst xs => xs.length ≤ sizeLine ∧ ∃ (its : List Value) (n : Nat), Vals xs its ∧ h.get? a = some { cls := .type "list", data := .seq its.toArray n }
  | .tup xs => xs.length ≤ sizeLine ∧ ∃ its : List Value, Vals xs its ∧ IsTup h a its.toArray
  | .dK kvs => kvs.length ≤ sizeLine ∧ (a == sysModules) = false ∧ ∃ vs, KV kvs vs ∧ h.DictOf (mixKind P w) a vs
  | .dT kvs => kvs.length ≤ sizeLine ∧ (a == sysModules) = false ∧ ∃ xs : List (List Key × Addr × Value),
      Paired (fun (p : List Key × V) (q : List Key × Addr × Value) => p.1 = q.1 ∧ H q.2.1 = some (.tup (p.1.map kV)) ∧ RelV p.2 q.2.2) kvs xs ∧
      ∃ o es ep, h.get? a = some o ∧ o.ExactDict ∧ o.data = .dict es ep ∧ es.toList = xs.map (entryOfKey (tupleKind (mixKind P w))) ∧ (xs.map (·.1)).Nodup
  | .set S n => h.SetOf (intKind P w) a S n
  | .ins C dx fs => H dx = some (.own a) ∧ fs.length ≤ 1000 ∧ dx ≠ a ∧ h.get? a = some (PySem.W.instObj C dx) ∧
      ∃ mA, h.Ns1 dx mA ∧ (∀ f, RelO (fs.lookup f) (mA f)) ∧ PySem.Within mA (fs.map (·.1))
  | .own _ => ∃ o, h.get? a = some o
  | .xd fs => ∃ mA, h.Ns1 a mA ∧ ∀ f, RelO (fs.lookup f) (mA f)
  | .rng lo hi => ∃ t u v, h.get? a = some { cls := .type "range", data := .fields #[.int lo t, .int hi u, .int 1 v] }
  | .frz o u => h.get? a = some o ∧ ObjOk H h a u
  | .tbl ps => h.get? a = some { cls := .none, data := .fields ps }
  | .met f x => h.get? a = some (PySem.W.methodObj (.ref f) (.ref x))
  | .ext φ => φ h ∧ (∃ o, h.get? a = some o) ∧ ∀ h1 h2 : Heap, φ h1 → (∀ o, h1.get? a = some o → h2.get? a = some o) → φ h2
def HOk (H : Hp) (h : Heap) : Prop := ∀ a o, H a = some o → ObjOk P w H h a o
end

section
variable {P : Program} {w : World} {H H' : Hp} {h h' : Heap} {a : Addr} {o : HO}
theorem ObjOk.lt (x : ObjOk P w H h a o) : a < h.objs.size := by
  cases o with
  | lst xs => obtain ⟨_, _, _, _, e⟩ := x; exact Heap.lt_size e
  | tup xs => obtain ⟨_, _, _, p⟩ := x; exact p.lt
  | dK kvs => obtain ⟨_, _, _, _, o, _, _, e, _⟩ := x; exact Heap.lt_size e
  | dT kvs => obtain ⟨_, _, _, _, o, _, _, e, _⟩ := x; exact Heap.lt_size e
  | set S n => obtain ⟨o, _, _, _, e, _⟩ := x; exact Heap.lt_size e
  | ins C dx fs => obtain ⟨_, _, _, e, _⟩ := x; exact Heap.lt_size e
  | own y => obtain ⟨_, e⟩ := x; exact Heap.lt_size e
  | xd fs => obtain ⟨_, ⟨_, _, _, e, _⟩, _⟩ := x; exact Heap.lt_size e
  | rng lo hi => obtain ⟨_, _, _, e⟩ := x; exact Heap.lt_size e
  | frz ob u => obtain ⟨e, _⟩ := x; exact Heap.lt_size e
  | tbl ps => exact Heap.lt_size (show h.get? a = some _ from x)
  | met f y => exact Heap.lt_size (show h.get? a = some _ from x)
  | ext φ => obtain ⟨_, ⟨_, e⟩, _⟩ := x; exact Heap.lt_size e
theorem Paired.mapP {α β : Type} {F G : α → β → Prop} : ∀ {l₁ : List α} {l₂ : List β}, Paired F l₁ l₂ → (∀ a b, F a b → G a b) → Paired G l₁ l₂
  | _, _, .nil, _ => .nil
  | _, _, .cons r t, f => .cons (f _ _ r) (Paired.mapP t f)
theorem ObjOk.stay (x : ObjOk P w H h a o) (k : ∀ b u, (b = a ∨ H b = some (.own a)) → h.get? b = some u → h'.get? b = some u)
    (ho : ∀ b, H b = some (.own a) → H' b = some (.own a)) (ht : ∀ b xs, H b = some (.tup xs) → H' b = some (.tup xs)) : ObjOk P w H' h' a o := by
  induction o with
  | lst xs => obtain ⟨z, its, n, r, e⟩ := x; exact ⟨z, its, n, r, k _ _ (.inl rfl) e⟩
  | tup xs => obtain ⟨z, its, r, ob, e, c⟩ := x; exact ⟨z, its, r, ob, k _ _ (.inl rfl) e, c⟩
  | dK kvs => obtain ⟨z, y, vs, r, ob, es, ep, e, c⟩ := x; exact ⟨z, y, vs, r, ob, es, ep, k _ _ (.inl rfl) e, c⟩
  | dT kvs =>
    obtain ⟨z, y, xs, r, ob, es, ep, e, c⟩ := x
    exact ⟨z, y, xs, Paired.mapP r fun p q z => ⟨z.1, ht _ _ z.2.1, z.2.2⟩, ob, es, ep, k _ _ (.inl rfl) e, c⟩
  | set S n => obtain ⟨ob, es, ep, t, e, c⟩ := x; exact ⟨ob, es, ep, t, k _ _ (.inl rfl) e, c⟩
  | ins C dx fs =>
    obtain ⟨d, z, ne, e, mA, ⟨od, es, ep, e2, c⟩, r⟩ := x
    exact ⟨ho _ d, z, ne, k _ _ (.inl rfl) e, mA, ⟨od, es, ep, k _ _ (.inr d) e2, c⟩, r⟩
  | own y => obtain ⟨ob, e⟩ := x; exact ⟨ob, k _ _ (.inl rfl) e⟩
  | xd fs => obtain ⟨mA, ⟨od, es, ep, e, c⟩, r⟩ := x; exact ⟨mA, ⟨od, es, ep, k _ _ (.inl rfl) e, c⟩, r⟩
  | rng lo hi => obtain ⟨t, u, v, e⟩ := x; exact ⟨t, u, v, k _ _ (.inl rfl) e⟩
  | frz ob u ih => obtain ⟨e, q⟩ := x; exact ⟨k _ _ (.inl rfl) e, ih q⟩
  | tbl ps =>
    have e : h.get? a = some { cls := .none, data := .fields ps } := x
    show h'.get? a = some { cls := .none, data := .fields ps }
    exact k a _ (.inl rfl) e
  | met f y =>
    have e : h.get? a = some (PySem.W.methodObj (.ref f) (.ref y)) := x
    show h'.get? a = some (PySem.W.methodObj (.ref f) (.ref y))
    exact k a _ (.inl rfl) e
  | ext φ => obtain ⟨p, ⟨o, e⟩, st⟩ := x; exact ⟨st _ _ p fun o q => k _ _ (.inl rfl) q, ⟨o, k _ _ (.inl rfl) e⟩, st⟩
theorem HOk.lt (x : HOk P w H h) (e : H a = some o) : a < h.objs.size := (x a o e).lt
theorem HOk.fresh (x : HOk P w H h) (e : h.objs.size ≤ a) : H a = none := by
  cases q : H a with
  | none => rfl
  | some u => exact absurd (Nat.lt_of_lt_of_le (x.lt q) e) (Nat.lt_irrefl _)
theorem HOk.kept (x : HOk P w H h) (k : ∀ b u, h.get? b = some u → h'.get? b = some u) : HOk P w H h' := fun a o e =>
  (x a o e).stay (fun b u _ q => k b u q) (fun _ q => q) fun _ _ q => q
theorem HOk.laid (x : HOk P w H h) (k : ∀ b u, h.get? b = some u → h'.get? b = some u) (hp : h.objs.size ≤ a) (new : ObjOk P w (upd H a o) h' a o) : HOk P w (upd H a o) h' := fun b u e => by
  have hn := x.fresh hp
  by_cases hb : b = a
  · subst hb; rw [upd_same] at e; cases e; exact new
  · rw [upd_ne hb] at e
    exact (x b u e).stay (fun c v _ q => k c v q) (fun c q => by rw [upd_ne (ne_of_none q hn)]; exact q) fun c xs q => by rw [upd_ne (ne_of_none q hn)]; exact q
end

def Rd (H : Hp) (a : Addr) (u : HO) : Prop := H a = some u ∨ ∃ o, H a = some (.frz o u)
theorem Rd.of {H : Hp} {a : Addr} {u : HO} (h : H a = some u) : Rd H a u := .inl h
theorem Rd.ok {P : Program} {w : World} {H : Hp} {h : Heap} {a : Addr} {u : HO} (r : Rd H a u) (x : HOk P w H h) : ObjOk P w H h a u := by
  rcases r with r | ⟨o, r⟩
  · exact x a u r
  · obtain ⟨_, q⟩ := x a _ r
    exact q
def Mut : Option HO → Prop
  | some (.lst _) => True
  | some (.dK _) => True
  | some (.dT _) => True
  | some (.set _ _) => True
  | some (.ins _ _ _) => True
  | some (.ext _) => True
  | _ => False
section
variable {P : Program} {w : World} {H : Hp} {h h' : Heap} {x e : Addr} {o' : HO}
theorem HOk.write (ok : HOk P w H h) (mu : Mut (H x)) (he : e = x ∨ H e = some (.own x)) (k : ∀ b u, b ≠ e → h.get? b = some u → h'.get? b = some u) (heo : ∃ u, h'.get? e = some u)
    (new : ObjOk P w (upd H x o') h' x o') : HOk P w (upd H x o') h' := fun b u q => by
  have nown : ∀ c y, H c = some (.own y) → c ≠ x := fun c y r z => by subst z; rw [r] at mu; exact mu
  have ntup : ∀ c xs, H c = some (.tup xs) → c ≠ x := fun c xs r z => by subst z; rw [r] at mu; exact mu
  by_cases hb : b = x
  · subst hb; rw [upd_same] at q; cases q; exact new
  · rw [upd_ne hb] at q
    by_cases hbe : b = e
    · have q' : H b = some (.own x) := by
        rcases he with z | z
        · exact absurd (hbe.trans z) hb
        · rw [hbe]; exact z
      rw [q] at q'; cases q'
      obtain ⟨v, hv⟩ := heo
      exact ⟨v, by rw [hbe]; exact hv⟩
    · refine (ok b u q).stay (fun c v hc r => k c v ?_ r) (fun c r => by rw [upd_ne (nown c b r)]; exact r) fun c xs r => by rw [upd_ne (ntup c xs r)]; exact r
      rcases hc with rfl | hc
      · exact hbe
      · rintro rfl
        rcases he with z | z
        · exact nown c b hc z
        · rw [hc] at z; cases z; exact hb rfl
end

structure Un (fs ex : List Addr) (H H' : Hp) (h h' : Heap) : Prop where
  keep : ∀ b o, h.get? b = some o → H b = none → b ∉ fs → b ∉ ex → h'.get? b = some o
  slot : ∀ b o, h.get? b = some o → H b = none → b ∈ fs → b ∉ ex → ∃ sl, h'.get? b = some { o with slots := sl }
  free : ∀ b o, h.get? b = some o → H b = none → b ∉ ex → H' b = none
  there : ∀ b o, h.get? b = some o → b ∉ ex → ∃ o', h'.get? b = some o'
  tups : ∀ b xs, H b = some (.tup xs) → H' b = some (.tup xs)
  frzs : ∀ b o u, H b = some (.frz o u) → H' b = some (.frz o u)
  tbls : ∀ b ps, H b = some (.tbl ps) → ∃ more, H' b = some (.tbl (ps ++ more))
section
variable {fs fs' ex ex' : List Addr} {H H1 H2 : Hp} {h h1 h2 h' : Heap} {a x e : Addr} {o : HO}
theorem Un.any (u : Un fs ex H H1 h h1) {b : Addr} {ob : Obj} (q : h.get? b = some ob) (n : H b = none) (hx : b ∉ ex) : ∃ sl, h1.get? b = some { ob with slots := sl } := by
  by_cases hb : b ∈ fs
  · exact u.slot b ob q n hb hx
  · exact ⟨ob.slots, u.keep b ob q n hb hx⟩
theorem Un.trans (a : Un fs ex H H1 h h1) (b : Un fs ex H1 H2 h1 h2) : Un fs ex H H2 h h2 where
  keep := fun c ob q n hc hx => b.keep c ob (a.keep c ob q n hc hx) (a.free c ob q n hx) hc hx
  slot := fun c ob q n hc hx => by
    obtain ⟨sl, e1⟩ := a.slot c ob q n hc hx
    obtain ⟨sl', e2⟩ := b.slot c _ e1 (a.free c ob q n hx) hc hx
    exact ⟨sl', e2⟩
  free := fun c ob q n hx => by
    obtain ⟨o', e1⟩ := a.there c ob q hx
    exact b.free c o' e1 (a.free c ob q n hx) hx
  there := fun c ob q hx => by
    obtain ⟨o', e1⟩ := a.there c ob q hx
    exact b.there c o' e1 hx
  tups := fun c xs q => b.tups c xs (a.tups c xs q)
  frzs := fun c ob xs q => b.frzs c ob xs (a.frzs c ob xs q)
  tbls := fun c ps q => by
    obtain ⟨m1, e1⟩ := a.tbls c ps q
    obtain ⟨m2, e2⟩ := b.tbls c _ e1
    exact ⟨m1 ++ m2, by rw [e2, Array.append_assoc]⟩
theorem Un.kept (k : ∀ b u, h.get? b = some u → h'.get? b = some u) : Un fs ex H H h h' :=
  ⟨fun b ob q _ _ _ => k b ob q, fun b ob q _ _ _ => ⟨ob.slots, k b ob q⟩, fun _ _ _ n _ => n, fun b ob q _ => ⟨ob, k b ob q⟩, fun _ _ q => q, fun _ _ _ q => q, fun _ ps q => ⟨#[], by rw [q]; simp⟩⟩
theorem Un.refl : Un fs ex H H h h := Un.kept fun _ _ q => q
theorem Un.laid (k : ∀ b u, h.get? b = some u → h'.get? b = some u) (hp : h.objs.size ≤ a) (hn : H a = none) : Un fs ex H (upd H a o) h h' where
  keep := fun b u q _ _ _ => k b u q
  slot := fun b u q _ _ _ => ⟨u.slots, k b u q⟩
  free := fun b u q n _ => by rw [upd_ne (Nat.ne_of_lt (Nat.lt_of_lt_of_le (Heap.lt_size q) hp))]; exact n
  there := fun b u q _ => ⟨u, k b u q⟩
  tups := fun b xs q => by rw [upd_ne (ne_of_none q hn)]; exact q
  frzs := fun b u xs q => by rw [upd_ne (ne_of_none q hn)]; exact q
  tbls := fun b ps q => ⟨#[], by rw [upd_ne (ne_of_none q hn), q]; simp⟩
theorem Un.write (mu : Mut (H x)) (he : e = x ∨ H e = some (.own x)) (k : ∀ b u, b ≠ e → h.get? b = some u → h'.get? b = some u) (heo : ∃ u, h'.get? e = some u) : Un fs ex H (upd H x o) h h' := by
  have hx : ∀ b, H b = none → b ≠ x := fun b n z => by subst z; rw [n] at mu; exact mu
  have hb : ∀ b, H b = none → b ≠ e := fun b n z => by
    subst z
    rcases he with r | r
    · exact hx b n r
    · rw [n] at r; cases r
  have hm : ∀ b u, H b = some u → ¬ Mut (some u) → b ≠ x := fun b u q nm z => by subst z; rw [q] at mu; exact nm mu
  refine ⟨fun b u q n _ _ => k b u (hb b n) q, fun b u q n _ _ => ⟨u.slots, k b u (hb b n) q⟩, fun b u q n _ => by rw [upd_ne (hx b n)]; exact n, fun b u q _ => ?_,
    fun b xs q => by rw [upd_ne (hm b _ q fun z => z)]; exact q, fun b u xs q => by rw [upd_ne (hm b _ q fun z => z)]; exact q, fun b ps q => ⟨#[], by rw [upd_ne (hm b _ q fun z => z), q]; simp⟩⟩
  by_cases hbe : b = e
  · subst hbe; exact heo
  · exact ⟨u, k b u hbe q⟩
theorem Un.mono (u : Un fs ex H H1 h h1) (hs : ∀ b ∈ fs, b ∈ fs') (hx : ∀ b ∈ ex, b ∈ ex') : Un fs' ex' H H1 h h1 :=
  ⟨fun b ob q n hb he => u.keep b ob q n (fun z => hb (hs b z)) fun z => he (hx b z), fun _ _ q n _ he => u.any q n fun z => he (hx _ z), fun b ob q n he => u.free b ob q n fun z => he (hx b z), fun b ob q he => u.there b ob q fun z => he (hx b z), u.tups, u.frzs, u.tbls⟩
end

def trk (h : Heap) (H : Hp) : List Addr := (List.range h.objs.size).filter fun a => (H a).isSome
def hidT (h : Heap) (H : Hp) : Heap := PySem.W.hideAll h (trk h H)
theorem hidT_size (h : Heap) (H : Hp) : (hidT h H).objs.size = h.objs.size := PySem.W.hideAll_size _ _
theorem hidT_get {h : Heap} {H : Hp} {b : Addr} {o : Obj} (e : h.get? b = some o) (n : H b = none) : (hidT h H).get? b = some o :=
  PySem.W.hideAll_get _ e fun hm => by
    have q : (H b).isSome = true := (List.mem_filter.mp hm).2
    rw [n] at q; simp at q
theorem of_hidT {h : Heap} {H : Hp} {b : Addr} {o : Obj} (e : (hidT h H).get? b = some o) : h.get? b = some o ∧ H b = none := by
  have e' : h.get? b = some o := PySem.W.of_hideAll (trk h H) e
  refine ⟨e', ?_⟩
  cases q : H b with
  | none => rfl
  | some x =>
    have hm : b ∈ trk h H := List.mem_filter.mpr ⟨List.mem_range.mpr (Heap.lt_size e'), by simp [q]⟩
    have z : (hidT h H).get? b = none := PySem.W.hideAll_none (trk h H) hm
    rw [z] at e; cases e

def allNews (g h : Heap) (L : Addr) : List (Addr × Obj) := (List.range h.objs.size).filterMap fun a => if a = L ∨ (g.get? a).isSome = true then none else (h.get? a).map fun o => (a, o)
def rest (g h : Heap) (L d : Addr) : List (Addr × Obj) := (allNews g h L).filter fun p => decide (p.1 ≠ d)
end L2

namespace L2
open PySem PySem.Spec PyProof.Rows

structure Mod (K : PySem.W.Frag) (mg : Str → Option Value) (base : Heap) : Prop where
  kin : K.In base
  glob : base.Ns mainGlobals mg
  blt : ∃ mb, base.Ns builtinsNs mb ∧ ∀ x : Str, x ≠ "__name__" → mb x = bootBuiltins x
  nolimit : base.NoLimit

structure Cx where
  prog : Program
  w : World
  K : PySem.W.Frag
  mg : Str → Option Value
  base : Heap
  A : Around
  N : List Str
  s₀ : Shared
  H₀ : Hp
  env : Env
  outer : List Env
  stack : List Env
  ex : List Addr
  fn : Str → Bool
  calm : Bool
  pn : List (Addr × Obj)
  xe : Value → Shared → Prop
def frs (l : List Env) : List Addr := l.filterMap (·.frame)
abbrev Cx.fs (X : Cx) : List Addr := frs X.outer

def Vis (sc : Scope) (x : Str) : Prop := sc.names.lookup x = some .local ∨ sc.names.lookup x = some .cell ∨ sc.names.lookup x = some .free
def Loc (sc : Scope) (x : Str) : Prop := sc.names.lookup x = some .local ∨ sc.names.lookup x = some .cell
def Look (env : Env) (h : Heap) (m : Str → Option Value) (x : Str) (u : Value) : Prop :=
  (env.kindOf x = some .local ∧ m x = some u) ∨ ((env.kindOf x = some .cell ∨ env.kindOf x = some .free) ∧ ∃ c, env.cells.lookup x = some c ∧ h.IsCell c (some u))

structure Cx.Ok (X : Cx) : Prop where
  mod : Mod X.K X.mg X.base
  kind : X.env.scope.kind = .function
  glob : X.env.globals = mainGlobals
  blt : X.env.builtins = builtinsNs
  above : X.s₀.heap.objs.size ≤ X.env.locals
  inj : ∀ x y c, X.env.cells.lookup x = some c → X.env.cells.lookup y = some c → x = y
  has : ∀ x, (X.env.kindOf x = some .cell ∨ X.env.kindOf x = some .free) → ∃ c, X.env.cells.lookup x = some c
  cab : ∀ x c, X.fn x = true → X.env.cells.lookup x = some c → X.s₀.heap.objs.size ≤ c
  hd : X.calm = true → X.A.handled = none
  frames : X.A.frames = some X.stack
  stk : X.stack = X.outer ∨ (X.stack = X.env :: X.outer ∧ X.env.frame = some X.env.locals)
  exf : ∀ b ∈ X.ex, b ≠ X.env.locals ∧ ∀ x c, X.env.cells.lookup x = some c → c ≠ b
  bs : ∀ b o, X.base.get? b = some o → X.s₀.heap.get? b = some o ∧ X.H₀ b = none
  bsz : X.base.objs.size ≤ X.s₀.heap.objs.size
  noex : ∀ b o, X.base.get? b = some o → b ∉ X.ex
  exfs : ∀ b ∈ X.ex, b ∉ X.fs
  funs : X.s₀.heap.FunFrames X.base X.outer
  frf : ∀ b ∈ X.fs, X.H₀ b = none

structure Inv (X : Cx) (pins : List (Addr × Obj)) (σ : List (Option V)) (H : Hp) (s : Shared) : Prop where
  ok : X.Ok
  os : s.os = X.s₀.os
  bare : AllBare s.gens
  base : Un X.fs X.ex X.H₀ H X.s₀.heap s.heap
  loc : ∃ m, s.heap.Ns X.env.locals m ∧ ∀ (i : Nat) (x : Str) (v : V), X.N[i]? = some x → σ[i]? = some (some v) → Vis X.env.scope x → ∃ u, RelV v u ∧ Look X.env s.heap m x u
  cell : ∀ x c, X.env.cells.lookup x = some c → ∃ v, s.heap.IsCell c v
  free : H X.env.locals = none
  freeC : ∀ x c, X.env.cells.lookup x = some c → H c = none
  pin : ∀ p ∈ X.pn ++ pins, s.heap.get? p.1 = some p.2 ∧ H p.1 = none ∧ p.1 ≠ X.env.locals ∧ p.1 ∉ X.fs ∧ ∀ v, p.2.data ≠ .cell v
  hok : HOk X.prog X.w H s.heap
  len : σ.length = X.N.length

section
variable {X : Cx} {pins : List (Addr × Obj)} {σ : List (Option V)} {H H' : Hp} {s : Shared} {h' : Heap}

theorem Cx.Ok.nofr (ok : X.Ok) {b : Addr} {o : Obj} (e : X.base.get? b = some o) : b ∉ X.fs := fun hb => by
  have := (ok.funs.mem hb).1
  rw [e] at this; cases this
theorem Inv.bs (I : Inv X pins σ H s) : ∀ b o, X.base.get? b = some o → s.heap.get? b = some o ∧ H b = none := fun b o e =>
  ⟨I.base.keep b o (I.ok.bs b o e).1 (I.ok.bs b o e).2 (I.ok.nofr e) (I.ok.noex b o e), I.base.free b o (I.ok.bs b o e).1 (I.ok.bs b o e).2 (I.ok.noex b o e)⟩
theorem Inv.bk (I : Inv X pins σ H s) : ∀ b o, X.base.get? b = some o → s.heap.get? b = some o := fun b o e => (I.bs b o e).1
theorem Inv.mod (I : Inv X pins σ H s) : Mod X.K X.mg X.base := I.ok.mod
theorem Inv.kIn (I : Inv X pins σ H s) : X.K.In s.heap := I.ok.mod.kin.keeps I.bk
theorem Inv.nolimit (I : Inv X pins σ H s) : s.heap.NoLimit := I.ok.mod.nolimit.keeps I.bk
theorem Inv.fr (I : Inv X pins σ H s) : ∃ m, Fr X.base X.env.locals s.heap m :=
  let ⟨m, hn, _⟩ := I.loc
  ⟨m, hn, I.bk, Nat.le_trans I.ok.bsz I.ok.above⟩
theorem Inv.lt (I : Inv X pins σ H s) : X.env.locals < s.heap.objs.size := let ⟨_, hn, _⟩ := I.loc; hn.lt
theorem Inv.sz (I : Inv X pins σ H s) : X.s₀.heap.objs.size ≤ s.heap.objs.size := Nat.le_trans I.ok.above (Nat.le_of_lt I.lt)
theorem Inv.nofs (I : Inv X pins σ H s) {a : Addr} (h : s.heap.objs.size ≤ a) : a ∉ X.fs := fun hb => by
  obtain ⟨_, o, ho, _⟩ := I.ok.funs.mem hb
  exact absurd (Nat.lt_of_lt_of_le (Heap.lt_size ho) (Nat.le_trans I.sz h)) (Nat.lt_irrefl _)
theorem Inv.cne (I : Inv X pins σ H s) : ∀ x c, X.env.cells.lookup x = some c → c ≠ X.env.locals := fun x c e z => by
  obtain ⟨v, o, ho, hd⟩ := I.cell x c e
  obtain ⟨m, ⟨o', es, ep, ho', hd', _⟩, _⟩ := I.loc
  rw [z, ho'] at ho; cases ho; rw [hd'] at hd; cases hd
theorem Inv.funs (I : Inv X pins σ H s) : s.heap.FunFrames X.base X.outer := by
  have all : ∀ (l : List Env), (∀ b ∈ frs l, b ∈ X.fs) → X.s₀.heap.FunFrames X.base l → s.heap.FunFrames X.base l := by
    intro l
    induction l with
    | nil => intro _ _; trivial
    | cons env r ih =>
      intro hs hl
      obtain ⟨hk, ⟨L, o, hf, hn, ho, hd⟩, hr⟩ := hl
      have hL : L ∈ X.fs := hs L (by unfold frs; rw [List.filterMap_cons, hf]; exact List.mem_cons_self)
      obtain ⟨sl, e⟩ := I.base.slot L o ho (I.ok.frf L hL) hL fun z => I.ok.exfs L z hL
      exact ⟨hk, ⟨L, _, hf, hn, e, hd⟩, ih (fun b hb => hs b (by unfold frs; rw [List.filterMap_cons, hf]; exact List.mem_cons_of_mem _ hb)) hr⟩
  exact all X.outer (fun _ hb => hb) I.ok.funs

theorem Inv.stack (I : Inv X pins σ H s) : s.heap.FunFrames X.base X.stack := by
  rcases I.ok.stk with e | ⟨e, hf⟩
  · rw [e]; exact I.funs
  · rw [e]
    obtain ⟨m, hn, _⟩ := I.loc
    refine .cons (by rw [I.ok.kind]; decide) hf hn ?_ I.funs
    exact Heap.get?_none_of_le (Nat.le_trans I.ok.bsz I.ok.above)
theorem Inv.stkSub (I : Inv X pins σ H s) : ∀ b ∈ frs X.stack, b ∈ X.env.locals :: X.fs := fun b hb => by
  rcases I.ok.stk with e | ⟨e, hf⟩
  · rw [e] at hb; exact List.mem_cons_of_mem _ hb
  · rw [e] at hb
    unfold frs at hb
    rw [List.filterMap_cons, hf] at hb
    exact hb
theorem Inv.stkFree (I : Inv X pins σ H s) : ∀ b ∈ frs X.stack, H b = none := fun b hb => by
  rcases List.mem_cons.mp (I.stkSub b hb) with e | hb
  · rw [e]; exact I.free
  · obtain ⟨_, o, ho, _⟩ := I.ok.funs.mem hb
    exact I.base.free b o ho (I.ok.frf b hb) fun z => I.ok.exfs b z hb

theorem Inv.step {g' : Array GenState} {t' : Nat} {d' : Drawn} {ch : List Addr} (I : Inv X pins σ H s)
    (hch : ∀ b ∈ ch, (b ∈ X.ex ∨ X.s₀.heap.objs.size ≤ b) ∧ b ≠ X.env.locals ∧ (∀ x c, X.env.cells.lookup x = some c → c ≠ b) ∧ ∀ p ∈ X.pn ++ pins, p.1 ≠ b)
    (keep : ∀ b o, b ≠ X.env.locals → b ∉ X.fs → b ∉ ch → s.heap.get? b = some o → H b = none → h'.get? b = some o)
    (slot : ∀ b o, b ≠ X.env.locals → b ∈ X.fs → b ∉ ch → s.heap.get? b = some o → H b = none → ∃ sl, h'.get? b = some { o with slots := sl }) (free : ∀ b o, b ∉ ch → s.heap.get? b = some o → H b = none → H' b = none)
    (there : ∀ b o, b ∉ ch → s.heap.get? b = some o → ∃ o', h'.get? b = some o')
    (tups : ∀ b xs, H b = some (.tup xs) → H' b = some (.tup xs)) (frzs : ∀ b o u, H b = some (.frz o u) → H' b = some (.frz o u)) (tbls : ∀ b ps, H b = some (.tbl ps) → ∃ more, H' b = some (.tbl (ps ++ more)))
    (ns : ∀ m, s.heap.Ns X.env.locals m → h'.Ns X.env.locals m) (hok : HOk X.prog X.w H' h') (hg : AllBare g') :
    Inv X pins σ H' { s with heap := h', gens := g', drawn := d', toks := t' } := by
  have neL : ∀ b o, X.s₀.heap.get? b = some o → b ≠ X.env.locals := fun b o e => Nat.ne_of_lt (Nat.lt_of_lt_of_le (Heap.lt_size e) I.ok.above)
  have neC : ∀ b o, X.s₀.heap.get? b = some o → b ∉ X.ex → b ∉ ch := fun b o e hx hb => by
    rcases (hch b hb).1 with z | z
    · exact hx z
    · exact absurd (Nat.lt_of_lt_of_le (Heap.lt_size e) z) (Nat.lt_irrefl _)
  have cellK : ∀ x c, X.env.cells.lookup x = some c → ∀ v, s.heap.IsCell c v → h'.IsCell c v := fun x c e v ⟨o, ho, hd⟩ => by
    have nch : c ∉ ch := fun z => (hch c z).2.2.1 x c e rfl
    by_cases hc : c ∈ X.fs
    · obtain ⟨sl, q⟩ := slot c o (I.cne x c e) hc nch ho (I.freeC x c e)
      exact ⟨_, q, hd⟩
    · exact ⟨o, keep c o (I.cne x c e) hc nch ho (I.freeC x c e), hd⟩
  refine ⟨I.ok, I.os, hg, ⟨fun b o e n hb hx => ?_, fun b o e n hb hx => ?_, fun b o e n hx => ?_, fun b o e hx => ?_, fun b xs e => tups b xs (I.base.tups b xs e), fun b o xs e => frzs b o xs (I.base.frzs b o xs e), fun b ps e => ?_⟩, ?_, fun x c e => ?_, ?_, fun x c e => ?_, fun p hp => ?_, hok, I.len⟩
  · exact keep b o (neL b o e) hb (neC b o e hx) (I.base.keep b o e n hb hx) (I.base.free b o e n hx)
  · obtain ⟨sl, e1⟩ := I.base.slot b o e n hb hx
    obtain ⟨sl', e2⟩ := slot b _ (neL b o e) hb (neC b o e hx) e1 (I.base.free b o e n hx)
    exact ⟨sl', e2⟩
  · obtain ⟨o', e1⟩ := I.base.there b o e hx
    exact free b o' (neC b o e hx) e1 (I.base.free b o e n hx)
  · obtain ⟨o', e1⟩ := I.base.there b o e hx
    exact there b o' (neC b o e hx) e1
  · obtain ⟨m1, e1⟩ := I.base.tbls b ps e
    obtain ⟨m2, e2⟩ := tbls b _ e1
    exact ⟨m1 ++ m2, by rw [e2, Array.append_assoc]⟩
  · obtain ⟨m, hn, hl⟩ := I.loc
    refine ⟨m, ns m hn, fun i x v e1 e2 e3 => ?_⟩
    obtain ⟨u, r, l⟩ := hl i x v e1 e2 e3
    refine ⟨u, r, ?_⟩
    rcases l with l | ⟨k, c, e, z⟩
    · exact .inl l
    · exact .inr ⟨k, c, e, cellK x c e _ z⟩
  · obtain ⟨v, z⟩ := I.cell x c e
    exact ⟨v, cellK x c e v z⟩
  · obtain ⟨m, ⟨o, _, _, ho, _⟩, _⟩ := I.loc
    exact free _ o (fun z => (hch _ z).2.1 rfl) ho I.free
  · obtain ⟨v, o, ho, hd⟩ := I.cell x c e
    exact free c o (fun z => (hch c z).2.2.1 x c e rfl) ho (I.freeC x c e)
  · obtain ⟨e, n, ne, nf, d⟩ := I.pin p hp
    have nch : p.1 ∉ ch := fun z => (hch p.1 z).2.2.2 p hp rfl
    exact ⟨keep p.1 p.2 ne nf nch e n, free p.1 p.2 nch e n, ne, nf, d⟩
theorem Inv.un {t' : Nat} (I : Inv X pins σ H s) (u : Un X.fs [] H H' s.heap h') (hok : HOk X.prog X.w H' h') : Inv X pins σ H' { s with heap := h', toks := t' } := by
  obtain ⟨m, ⟨o, es, ep, ho, r⟩, _⟩ := id I.loc
  obtain ⟨sl, hL⟩ := u.any ho I.free (by simp)
  exact I.step (g' := s.gens) (d' := s.drawn) (ch := []) (fun _ z => nomatch z) (fun b o _ hb _ e n => u.keep b o e n hb (by simp)) (fun b o _ hb _ e n => u.slot b o e n hb (by simp)) (fun b o _ e n => u.free b o e n (by simp)) (fun b o _ e => u.there b o e (by simp)) u.tups u.frzs u.tbls (fun m' hm => by
    obtain ⟨o', es', ep', ho', r'⟩ := hm
    rw [ho] at ho'; cases ho'
    exact ⟨_, es', ep', hL, r'⟩) hok I.bare
theorem Inv.call {g' : Array GenState} {t' : Nat} {d' : Drawn} {ch : List Addr} (I : Inv X pins σ H s) (u : Un (frs X.stack) ch H H' s.heap h') (hok : HOk X.prog X.w H' h') (hg : AllBare g')
    (hch : ∀ b ∈ ch, (b ∈ X.ex ∨ X.s₀.heap.objs.size ≤ b) ∧ b ≠ X.env.locals ∧ (∀ x c, X.env.cells.lookup x = some c → c ≠ b) ∧ ∀ p ∈ X.pn ++ pins, p.1 ≠ b) :
    Inv X pins σ H' { s with heap := h', gens := g', drawn := d', toks := t' } := by
  obtain ⟨m, ⟨o, es, ep, ho, r⟩, _⟩ := id I.loc
  obtain ⟨sl, hL⟩ := u.any ho I.free fun z => (hch _ z).2.1 rfl
  exact I.step (ch := ch) hch (fun b o hL hb hc e n => u.keep b o e n (fun z => (List.mem_cons.mp (I.stkSub b z)).elim hL hb) hc) (fun b o _ _ hc e n => u.any e n hc) (fun b o hc e n => u.free b o e n hc) (fun b o hc e => u.there b o e hc) u.tups u.frzs u.tbls (fun m' hm => by
    obtain ⟨o', es', ep', ho', r'⟩ := hm
    rw [ho] at ho'; cases ho'
    exact ⟨_, es', ep', hL, r'⟩) hok hg
theorem Inv.turned {t' : Nat} {it : Addr} (I : Inv X pins σ H s) (k : ∀ b o, b ≠ it → s.heap.get? b = some o → h'.get? b = some o) (hn : H it = none) (hL : it ≠ X.env.locals)
    (h1 : it ∈ X.ex ∨ X.s₀.heap.objs.size ≤ it) (h2 : ∀ x c, X.env.cells.lookup x = some c → c ≠ it) (h3 : ∀ p ∈ X.pn ++ pins, p.1 ≠ it) : Inv X pins σ H { s with heap := h', toks := t' } := by
  have nit : ∀ b u, H b = some u → b ≠ it := fun b u e z => by rw [z, hn] at e; cases e
  refine I.step (g' := s.gens) (d' := s.drawn) (ch := [it]) (fun b hb => ?_) (fun b o _ _ hc e _ => k b o (fun z => hc (by simp [z])) e) (fun b o _ _ hc e _ => ⟨o.slots, k b o (fun z => hc (by simp [z])) e⟩) (fun _ _ _ _ n => n)
    (fun b o hc e => ⟨o, k b o (fun z => hc (by simp [z])) e⟩) (fun _ _ e => e) (fun _ _ _ e => e) (fun b ps e => ⟨#[], by rw [e]; simp⟩) (fun m hm => ?_) (fun b u e => ?_) I.bare
  · have e : b = it := by simpa using hb
    subst e
    exact ⟨h1, hL, h2, h3⟩
  · obtain ⟨o, es, ep, ho, r⟩ := hm
    exact ⟨o, es, ep, k _ o (Ne.symm hL) ho, r⟩
  · refine (I.hok b u e).stay (fun c v hc q => k c v ?_ q) (fun _ q => q) fun _ _ q => q
    rcases hc with z | z
    · rw [z]; exact nit b u e
    · exact nit c _ z
theorem Inv.tok (I : Inv X pins σ H s) (t : Nat) : Inv X pins σ H { s with toks := t } := I.un (h' := s.heap) (t' := t) Un.refl I.hok
theorem Inv.kept {t' : Nat} (I : Inv X pins σ H s) (k : ∀ b u, s.heap.get? b = some u → h'.get? b = some u) : Inv X pins σ H { s with heap := h', toks := t' } := I.un (Un.kept k) (I.hok.kept k)
theorem Inv.laid {a : Addr} {o : HO} {t' : Nat} (I : Inv X pins σ H s) (k : ∀ b u, s.heap.get? b = some u → h'.get? b = some u) (hp : s.heap.objs.size ≤ a) (new : ObjOk X.prog X.w (upd H a o) h' a o) :
    Inv X pins σ (upd H a o) { s with heap := h', toks := t' } := I.un (Un.laid k hp (I.hok.fresh hp)) (I.hok.laid k hp new)
theorem Inv.write {x e : Addr} {o : HO} {t' : Nat} (I : Inv X pins σ H s) (mu : Mut (H x)) (he : e = x ∨ H e = some (.own x)) (k : ∀ b u, b ≠ e → s.heap.get? b = some u → h'.get? b = some u) (heo : ∃ u, h'.get? e = some u)
    (new : ObjOk X.prog X.w (upd H x o) h' x o) : Inv X pins σ (upd H x o) { s with heap := h', toks := t' } := I.un (Un.write mu he k heo) (I.hok.write mu he k heo new)
theorem Inv.pins_of {pins' : List (Addr × Obj)} (I : Inv X pins σ H s) (h : ∀ p ∈ pins', s.heap.get? p.1 = some p.2 ∧ H p.1 = none ∧ p.1 ≠ X.env.locals ∧ p.1 ∉ X.fs ∧ ∀ v, p.2.data ≠ .cell v) : Inv X pins' σ H s :=
  ⟨I.ok, I.os, I.bare, I.base, I.loc, I.cell, I.free, I.freeC, fun p hp => (List.mem_append.mp hp).elim (fun z => I.pin p (List.mem_append_left _ z)) (h p), I.hok, I.len⟩

theorem nodup_ix {N : List Str} (hN : N.Nodup) {i j : Nat} {x : Str} (a : N[i]? = some x) (b : N[j]? = some x) : i = j := by
  obtain ⟨h1, e1⟩ := List.getElem?_eq_some_iff.mp a
  obtain ⟨h2, e2⟩ := List.getElem?_eq_some_iff.mp b
  exact (List.getElem_inj hN).mp (e1.trans e2.symm)

theorem store_ok2 {M : Model} {A : Around} {E : Value → Shared → Prop} {i : Nat} {x : Str} {v : V} {u : Value} {Q : Unit → Shared → Prop} (I : Inv X pins σ H s) (hN : X.N.Nodup) (hi : X.N[i]? = some x) (hx : Loc X.env.scope x) (r : RelV v u)
    (h : ∀ s', Inv X pins (σ.set i (some v)) H s' → (∃ a, Heap.SameBut a s.heap s'.heap ∧ (a = X.env.locals ∨ X.env.cells.lookup x = some a)) → Q () s') (hf : X.fn x = true ∨ X.env.scope.names.lookup x = some .local := by first | exact .inl rfl | exact .inr rfl | assumption) : wpAny M A (storeName X.env x u) Q E s := by
  obtain ⟨m, hn, hl⟩ := id I.loc
  have hcls : (X.env.scope.kind == .class || (X.env.scope.kind == .module && X.env.locals != X.env.globals)) = false := by rw [I.ok.kind]; rfl
  have hiσ : i < σ.length := by rw [I.len]; exact (List.getElem?_eq_some_iff.mp hi).1
  have cne := I.cne
  have tracked : ∀ {a : Addr} {h' : Heap}, (∃ o, s.heap.get? a = some o ∧ H a = none) → Heap.SameBut a s.heap h' → HOk X.prog X.w H h' := fun {a h'} ha hs b ob e => by
    obtain ⟨_, _, hfree⟩ := ha
    refine (I.hok b ob e).stay (fun c w' hc q => (hs.2 c ?_).trans q) (fun _ q => q) fun _ _ q => q
    rintro rfl
    rcases hc with rfl | hc
    · rw [hfree] at e; cases e
    · rw [hfree] at hc; cases hc
  rcases hx with hk | hk
  · refine wpAny_storeName_local hk hn (fun h' hn' hs => ?_) hcls
    obtain ⟨oL, _, _, hoL, _⟩ := id hn
    refine h _ ⟨I.ok, I.os, I.bare, ⟨fun b o e n hb hx => ?_, fun b o e n hb hx => ?_, I.base.free, fun b o e hx => ?_, I.base.tups, I.base.frzs, I.base.tbls⟩, ⟨_, hn', fun j y v' e1 e2 e3 => ?_⟩, fun y c e => ?_, I.free, I.freeC, fun p hp => ?_, tracked ⟨oL, hoL, I.free⟩ hs, by simpa using I.len⟩ ⟨_, hs, .inl rfl⟩
    · exact (hs.2 b (Nat.ne_of_lt (Nat.lt_of_lt_of_le (Heap.lt_size e) I.ok.above))).trans (I.base.keep b o e n hb hx)
    · obtain ⟨sl, e1⟩ := I.base.slot b o e n hb hx
      exact ⟨sl, (hs.2 b (Nat.ne_of_lt (Nat.lt_of_lt_of_le (Heap.lt_size e) I.ok.above))).trans e1⟩
    · obtain ⟨o', e1⟩ := I.base.there b o e hx
      exact ⟨o', (hs.2 b (Nat.ne_of_lt (Nat.lt_of_lt_of_le (Heap.lt_size e) I.ok.above))).trans e1⟩
    · by_cases hj : j = i
      · subst hj
        rw [hi] at e1; cases e1
        rw [List.getElem?_set_self hiσ] at e2
        cases e2
        exact ⟨u, r, .inl ⟨hk, by simp⟩⟩
      · rw [List.getElem?_set_ne (Ne.symm hj)] at e2
        obtain ⟨u', r', q⟩ := hl j y v' e1 e2 e3
        refine ⟨u', r', ?_⟩
        rcases q with ⟨k, e⟩ | ⟨k, c, e, z⟩
        · refine .inl ⟨k, ?_⟩
          have : y ≠ x := fun e => hj (nodup_ix hN e1 (e ▸ hi))
          simp [this, e]
        · exact .inr ⟨k, c, e, z.sameBut hs (cne y c e)⟩
    · obtain ⟨w', z⟩ := I.cell y c e
      exact ⟨w', z.sameBut hs (cne y c e)⟩
    · obtain ⟨e, n, ne, nf, d⟩ := I.pin p hp
      exact ⟨(hs.2 p.1 ne).trans e, n, ne, nf, d⟩
  · have hfn : X.fn x = true := by
      rcases hf with z | z
      · exact z
      · rw [z] at hk; cases hk
    obtain ⟨c, hc⟩ := I.ok.has x (.inl hk)
    obtain ⟨w', z⟩ := I.cell x c hc
    refine wpAny_storeName_cell I.ok.kind hk hc z (fun h' hc' hs => ?_)
    obtain ⟨oc, hoc, hocd⟩ := id z
    refine h { s with heap := h' } ⟨I.ok, I.os, I.bare, ⟨fun b o e n hb hx => ?_, fun b o e n hb hx => ?_, I.base.free, fun b o e hx => ?_, I.base.tups, I.base.frzs, I.base.tbls⟩, ⟨m, hn.sameBut hs (Ne.symm (cne x c hc)), fun j y v' e1 e2 e3 => ?_⟩, fun y c' e => ?_, I.free, I.freeC, fun p hp => ?_, tracked ⟨oc, hoc, I.freeC x c hc⟩ hs, by simpa using I.len⟩ ⟨c, hs, .inr hc⟩
    · exact (hs.2 b (Nat.ne_of_lt (Nat.lt_of_lt_of_le (Heap.lt_size e) (I.ok.cab x c hfn hc)))).trans (I.base.keep b o e n hb hx)
    · obtain ⟨sl, e1⟩ := I.base.slot b o e n hb hx
      exact ⟨sl, (hs.2 b (Nat.ne_of_lt (Nat.lt_of_lt_of_le (Heap.lt_size e) (I.ok.cab x c hfn hc)))).trans e1⟩
    · obtain ⟨o', e1⟩ := I.base.there b o e hx
      exact ⟨o', (hs.2 b (Nat.ne_of_lt (Nat.lt_of_lt_of_le (Heap.lt_size e) (I.ok.cab x c hfn hc)))).trans e1⟩
    · by_cases hj : j = i
      · subst hj
        rw [hi] at e1; cases e1
        rw [List.getElem?_set_self hiσ] at e2
        cases e2
        exact ⟨u, r, .inr ⟨.inl hk, c, hc, hc'⟩⟩
      · rw [List.getElem?_set_ne (Ne.symm hj)] at e2
        obtain ⟨u', r', q⟩ := hl j y v' e1 e2 e3
        refine ⟨u', r', ?_⟩
        rcases q with q | ⟨k, c', e, z'⟩
        · exact .inl q
        · refine .inr ⟨k, c', e, z'.sameBut hs ?_⟩
          rintro rfl
          exact hj (nodup_ix hN e1 (I.ok.inj _ _ _ e hc ▸ hi))
    · by_cases hcc : c' = c
      · subst hcc; exact ⟨_, hc'⟩
      · obtain ⟨w2, z2⟩ := I.cell y c' e
        exact ⟨w2, z2.sameBut hs hcc⟩
    · obtain ⟨e, n, ne, nf, d⟩ := I.pin p hp
      refine ⟨(hs.2 p.1 ?_).trans e, n, ne, nf, d⟩
      intro q
      rw [q, hoc] at e
      have q' : oc = p.2 := Option.some.inj e
      exact d w' (by rw [← q']; exact hocd)
theorem store_ok {M : Model} {A : Around} {E : Value → Shared → Prop} {i : Nat} {x : Str} {v : V} {u : Value} {Q : Unit → Shared → Prop} (I : Inv X pins σ H s) (hN : X.N.Nodup) (hi : X.N[i]? = some x) (hx : Loc X.env.scope x) (r : RelV v u)
    (h : ∀ s', Inv X pins (σ.set i (some v)) H s' → Q () s') (hf : X.fn x = true ∨ X.env.scope.names.lookup x = some .local := by first | exact .inl rfl | exact .inr rfl | assumption) : wpAny M A (storeName X.env x u) Q E s :=
  store_ok2 I hN hi hx r (fun s' I' _ => h s' I') hf
theorem Inv.call' {s' : Shared} {ch : List Addr} (I : Inv X pins σ H s) (ho : s'.os = s.os) (u : Un (frs X.stack) ch H H' s.heap s'.heap) (hok : HOk X.prog X.w H' s'.heap) (hg : AllBare s'.gens)
    (hch : ∀ b ∈ ch, (b ∈ X.ex ∨ X.s₀.heap.objs.size ≤ b) ∧ b ≠ X.env.locals ∧ (∀ x c, X.env.cells.lookup x = some c → c ≠ b) ∧ ∀ p ∈ X.pn ++ pins, p.1 ≠ b) : Inv X pins σ H' s' := by
  obtain ⟨h', g', d', t', o'⟩ := s'
  have e : o' = s.os := ho
  subst e
  exact I.call (g' := g') (t' := t') (d' := d') u hok hg hch
end

abbrev XK := Value → Option Addr → Hp → Prop
abbrev St := List (Option V)
abbrev VK := V → Hp → Prop
abbrev TE := St → Hp → VK → Prop
abbrev TT := St → Hp → (Bool → Hp → Prop) → Prop
abbrev TA := St → Hp → (List V → Hp → Prop) → Prop
structure Ends where
  nx : St → Hp → Prop
  rt : VK
  bk : St → Hp → Prop := fun _ _ => False
  ct : St → Hp → Prop := fun _ _ => False
abbrev TS := Ends → St → Hp → Prop

def EP (X : Cx) (pins : List (Addr × Obj)) (σ : St) (Q : VK) (u : Value) (s' : Shared) : Prop := ∃ v H', Inv X pins σ H' s' ∧ RelV v u ∧ Q v H'
def TP (X : Cx) (pins : List (Addr × Obj)) (σ : St) (Q : Bool → Hp → Prop) (b : Bool) (s' : Shared) : Prop := ∃ H', Inv X pins σ H' s' ∧ Q b H'
def AP (X : Cx) (pins : List (Addr × Obj)) (σ : St) (Q : List V → Hp → Prop) (us : List Value) (s' : Shared) : Prop := ∃ vs H', Inv X pins σ H' s' ∧ Vals vs us ∧ Q vs H'
def SP (X : Cx) (pins : List (Addr × Obj)) (D : Ends) (f : Flow) (s' : Shared) : Prop :=
  match f with
  | .next => ∃ σ' H', Inv X pins σ' H' s' ∧ D.nx σ' H'
  | .brk => ∃ σ' H', Inv X pins σ' H' s' ∧ D.bk σ' H'
  | .cont => ∃ σ' H', Inv X pins σ' H' s' ∧ D.ct σ' H'
  | .ret u => ∃ v σ' H', Inv X pins σ' H' s' ∧ RelV v u ∧ D.rt v H'

def PE (X : Cx) (e : Expr) (t : TE) : Prop :=
  ∀ (pins : List (Addr × Obj)) (s : Shared) (σ : St) (H : Hp) (Q : VK), Inv X pins σ H s → t σ H Q → wpAny (model X.prog X.w) X.A (eval e X.env) (EP X pins σ Q) X.xe s
def PT (X : Cx) (e : Expr) (t : TT) : Prop :=
  ∀ (pins : List (Addr × Obj)) (s : Shared) (σ : St) (H : Hp) (Q : Bool → Hp → Prop), Inv X pins σ H s → t σ H Q → wpAny (model X.prog X.w) X.A (isTrue e X.env (eval e X.env)) (TP X pins σ Q) X.xe s
def PW (X : Cx) (e : Expr) (t : TT) : Prop :=
  ∀ (whole : Sem Value) (pins : List (Addr × Obj)) (s : Shared) (σ : St) (H : Hp) (Q : Bool → Hp → Prop), Inv X pins σ H s → t σ H Q → wpAny (model X.prog X.w) X.A (isTrue e X.env whole) (TP X pins σ Q) X.xe s
theorem PW.pt {X : Cx} {e : Expr} {t : TT} (h : PW X e t) : PT X e t := h _
def PA (X : Cx) (es : List Expr) (t : TA) : Prop :=
  ∀ (pos : Pos) (pins : List (Addr × Obj)) (s : Shared) (σ : St) (H : Hp) (Q : List V → Hp → Prop), Inv X pins σ H s → t σ H Q → wpAny (model X.prog X.w) X.A (spliced (backTo pos (starEach es X.env))) (AP X pins σ Q) X.xe s
def PS (X : Cx) (st : Stmt) (t : TS) : Prop :=
  ∀ (pins : List (Addr × Obj)) (s : Shared) (σ : St) (H : Hp) (D : Ends), Inv X pins σ H s → t D σ H → wpAny (model X.prog X.w) X.A (exec st X.env) (SP X pins D) X.xe s
def PSs (X : Cx) (st : List Stmt) (t : TS) : Prop :=
  ∀ (pins : List (Addr × Obj)) (s : Shared) (σ : St) (H : Hp) (D : Ends), Inv X pins σ H s → t D σ H → wpAny (model X.prog X.w) X.A (execs st X.env) (SP X pins D) X.xe s
theorem thn {α : Type} {t : Sem α} {Q Q' : α → Shared → Prop} {M : Model} {A : Around} {E : Value → Shared → Prop} {s : Shared} (h : wpAny M A t Q E s) (hQ : ∀ a s, Q a s → Q' a s) : wpAny M A t Q' E s := wpAny_mono h hQ fun _ _ x => x
end L2

namespace L2
open PySem PySem.Spec PyProof.Rows
section
variable {X : Cx}


def tVar (i : Nat) : TE := fun σ H Q => ∃ v, σ[i]? = some (some v) ∧ Q v H
def tC (v : V) : TE := fun _ H Q => Q v H
theorem pe_var {i : Nat} {x : Str} {pos : Pos} (hN : X.N[i]? = some x) (hv : Vis X.env.scope x) (hd : (x == ("__debug__" : Str)) = false := by decide) (hcd : (x == ("__classdict__" : Str)) = false := by decide) : PE X (.Name x pos) (tVar i) := by
  intro pins s σ H Q I h
  obtain ⟨v, e, h⟩ := h
  obtain ⟨m, hn, hl⟩ := I.loc
  obtain ⟨u, r, l⟩ := hl i x v hN e hv
  have fin : EP X pins σ Q u s := ⟨v, H, I, r, h⟩
  rcases l with ⟨hk, hm⟩ | ⟨hk, c, hc, hcell⟩
  · exact wpAny_Name (wpAny_loadName_local I.ok.kind hk hn hm fin) hd
  · rcases hk with hk | hk
    · exact wpAny_Name (wpAny_loadName_cell I.ok.kind hk hc hcell fin) hd
    · exact wpAny_Name (wpAny_loadName_free I.ok.kind hk hc hcell fin hcd) hd
theorem pe_int {i j pos} : PE X (.Constant (.int i) j pos) (tC (.int i)) := fun _ _ _ H _ I h => wpAny_Constant_int ⟨.int i, H, I.tok _, ⟨_, rfl⟩, h⟩
theorem pe_bl {b j pos} : PE X (.Constant (.bool b) j pos) (tC (.bl b)) := fun _ _ _ H _ I h => Constant_bool ⟨.bl b, H, I, rfl, h⟩
theorem pe_non {j pos} : PE X (.Constant .none j pos) (tC .non) := fun _ _ _ H _ I h => Constant_none ⟨.non, H, I, rfl, h⟩

def Gl (X : Cx) (x : Str) : Prop := X.env.kindOf x = some .globalImplicit
theorem ld_glob {E : Value → Shared → Prop} {pins : List (Addr × Obj)} {s : Shared} {σ : St} {H : Hp} {x : Str} {u : Value} {pos : Pos} {Q : Value → Shared → Prop} (I : Inv X pins σ H s) (hg : Gl X x) (hm : X.mg x = some u) (h : Q u s)
    (hd : (x == ("__debug__" : Str)) = false := by decide) : wpAny (model X.prog X.w) X.A (eval (.Name x pos) X.env) Q E s :=
  Calls.Name_function_global I.ok.kind hg (Calls.loadGlobal_global (by rw [I.ok.glob]; exact I.mod.glob.keeps I.bk) hm h) hd
theorem ld_blt {E : Value → Shared → Prop} {pins : List (Addr × Obj)} {s : Shared} {σ : St} {H : Hp} {x : Str} {u : Value} {pos : Pos} {Q : Value → Shared → Prop} (I : Inv X pins σ H s) (hg : Gl X x) (hm : X.mg x = none) (hv : bootBuiltins x = some u) (h : Q u s)
    (hn : x ≠ "__name__" := by decide) (hd : (x == ("__debug__" : Str)) = false := by decide) : wpAny (model X.prog X.w) X.A (eval (.Name x pos) X.env) Q E s := by
  obtain ⟨mb, h1, h2⟩ := I.mod.blt
  exact Calls.Name_function_global I.ok.kind hg (Calls.loadGlobal_builtin (by rw [I.ok.glob]; exact I.mod.glob.keeps I.bk) hm (by rw [I.ok.blt]; exact h1.keeps I.bk) ((h2 x hn).trans hv) h) hd
theorem pe_glob {x : Str} {v : V} {u : Value} {pos : Pos} (hg : Gl X x) (hm : X.mg x = some u) (r : RelV v u) (hd : (x == ("__debug__" : Str)) = false := by decide) : PE X (.Name x pos) (tC v) :=
  fun _ _ _ H _ I h => ld_glob I hg hm ⟨v, H, I, r, h⟩ hd
theorem pe_bltn {x : Str} {v : V} {u : Value} {pos : Pos} (hg : Gl X x) (hm : X.mg x = none) (hv : bootBuiltins x = some u) (r : RelV v u) (hn : x ≠ "__name__" := by decide) (hd : (x == ("__debug__" : Str)) = false := by decide) : PE X (.Name x pos) (tC v) :=
  fun _ _ _ H _ I h => ld_blt I hg hm hv ⟨v, H, I, r, h⟩ hn hd

variable {a b : Expr} {ta tb : TE} {pos : Pos}

def PC (X : Cx) (op : CmpOp) (a b : Expr) (t : TE) : Prop :=
  ∀ (pins : List (Addr × Obj)) (s : Shared) (σ : St) (H : Hp) (Q : VK), Inv X pins σ H s → t σ H Q →
    wpAny (model X.prog X.w) X.A (eval a X.env) (fun v s₁ => wpAny (model X.prog X.w) X.A (eval b X.env) (fun u s₂ => wpAny (model X.prog X.w) X.A (compareOp op v u) (EP X pins σ Q) X.xe s₂) X.xe s₁) X.xe s
theorem nobehind (b : Expr) {op : CmpOp} (h : op ≠ .In) (h2 : op ≠ .NotIn) : behindInMarks op b = false := by
  have e1 : (op == CmpOp.In) = false := by cases op <;> first | rfl | exact absurd rfl h
  have e2 : (op == CmpOp.NotIn) = false := by cases op <;> first | rfl | exact absurd rfl h2
  cases b <;> simp [behindInMarks, e1, e2]
def tIsN (ta : TE) : TE := fun σ H Q => ta σ H fun x H1 => Q (.bl (decide (x = .non))) H1
def tNotN (ta : TE) : TE := fun σ H Q => ta σ H fun x H1 => Q (.bl (!decide (x = .non))) H1
theorem RelV.none_iff {x : V} {v : Value} (r : RelV x v) : (v == Value.none) = decide (x = .non) := by
  cases x with
  | non => cases r; rfl
  | bl _ => cases r; rfl
  | int _ => obtain ⟨t, rfl⟩ := r; rfl
  | str _ => obtain ⟨t, rfl⟩ := r; rfl
  | byt _ => obtain ⟨t, rfl⟩ := r; rfl
  | flt _ => obtain ⟨t, rfl⟩ := r; rfl
  | ref _ => cases r; rfl
  | ty _ => cases r; rfl
theorem pc_isN {j pos'} (ha : PE X a ta) : PC X .Is a (.Constant .none j pos') (tIsN ta) := by
  intro pins s σ H Q I h
  refine thn (ha pins s σ H _ I h) fun v s1 ⟨x, H1, I1, r1, q1⟩ => ?_
  exact Constant_none (is_none_gen ⟨.bl _, H1, I1, by rw [r1.none_iff]; rfl, q1⟩)
theorem pc_notN {j pos'} (ha : PE X a ta) : PC X .IsNot a (.Constant .none j pos') (tNotN ta) := by
  intro pins s σ H Q I h
  refine thn (ha pins s σ H _ I h) fun v s1 ⟨x, H1, I1, r1, q1⟩ => ?_
  exact Constant_none (isnot_none_gen ⟨.bl _, H1, I1, by rw [r1.none_iff]; rfl, q1⟩)
def tB (t : TE) : TT := fun σ H Q => t σ H fun x H1 => ∃ c, x = .bl c ∧ Q c H1
theorem pe_cmp {op : CmpOp} {t : TE} (h : PC X op a b t) (h1 : behindInMarks op b = false := by first | exact nobehind _ (by decide) (by decide) | rfl) : PE X (.Compare a [op] [b] pos) t := fun pins s σ H Q I hw => wpAny_Compare1 (h pins s σ H Q I hw) h1
theorem pt_cmp {op : CmpOp} {t : TE} (h : PC X op a b t) (h1 : behindInMarks op b = false := by first | exact nobehind _ (by decide) (by decide) | rfl) : PT X (.Compare a [op] [b] pos) (tB t) := by
  intro pins s σ H Q I hw
  refine wpAny_isTrue_Compare1 (thn (h pins s σ H _ I hw) fun v s1 h1 => thn h1 fun u s2 h2 => thn h2 fun c s3 ⟨x, H1, I1, r1, q1⟩ => ?_) h1
  obtain ⟨d, rfl, q⟩ := q1
  cases r1
  exact wpAny_truthy_bool ⟨H1, I1, q⟩
theorem pt_val {e : Expr} {t : TE} (h : PE X e t) (he : ∀ whole, isTrue e X.env whole = (do let v ← whole; standAt e.pos; holding [v] (truthy v)) := by intro _; rfl) : PT X e (tB t) := by
  intro pins s σ H Q I hw
  refine isTrue_plain (thn (h pins s σ H _ I hw) fun v s1 ⟨x, H1, I1, r1, q1⟩ => ?_) (he _)
  obtain ⟨d, rfl, q⟩ := q1
  cases r1
  exact wpAny_truthy_bool ⟨H1, I1, q⟩

variable {tA tB' : TT} {rest : List Expr}
def tAnd (t u : TT) : TT := fun σ H Q => t σ H fun c H1 => if c = true then u σ H1 Q else Q false H1
def tOr (t u : TT) : TT := fun σ H Q => t σ H fun c H1 => if c = true then Q true H1 else u σ H1 Q
def tNot (t : TT) : TT := fun σ H Q => t σ H fun c H1 => Q (!c) H1
theorem pw_and1 (ha : PT X a tA) : PW X (.BoolOp .And [a] pos) tA := by
  intro wh pins s σ H Q I h
  refine isTrue_and (thn (ha pins s σ H Q I h) fun c s1 e => ?_)
  cases c with
  | true => exact isTrue_and_nil e
  | false => exact e
theorem pw_or1 (ha : PT X a tA) : PW X (.BoolOp .Or [a] pos) tA := by
  intro wh pins s σ H Q I h
  refine isTrue_or (thn (ha pins s σ H Q I h) fun c s1 e => ?_)
  cases c with
  | false => exact isTrue_or_nil e
  | true => exact e
theorem pw_and (ha : PT X a tA) (hb : PW X (.BoolOp .And (b :: rest) pos) tB') : PW X (.BoolOp .And (a :: b :: rest) pos) (tAnd tA tB') := by
  intro wh pins s σ H Q I h
  refine isTrue_and (thn (ha pins s σ H _ I h) fun c s1 ⟨H1, I1, q1⟩ => ?_)
  cases c with
  | true => exact hb wh pins s1 σ H1 Q I1 q1
  | false => exact ⟨H1, I1, q1⟩
theorem pw_or (ha : PT X a tA) (hb : PW X (.BoolOp .Or (b :: rest) pos) tB') : PW X (.BoolOp .Or (a :: b :: rest) pos) (tOr tA tB') := by
  intro wh pins s σ H Q I h
  refine isTrue_or (thn (ha pins s σ H _ I h) fun c s1 ⟨H1, I1, q1⟩ => ?_)
  cases c with
  | true => exact ⟨H1, I1, q1⟩
  | false => exact hb wh pins s1 σ H1 Q I1 q1
theorem pt_not (ha : PT X a tA) : PT X (.UnaryOp .Not a pos) (tNot tA) := by
  intro pins s σ H Q I h
  exact isTrue_not (ha pins s σ H (fun c H1 => Q (!c) H1) I h)
def tAndV (ta tb : TE) : TE := fun σ H Q => ta σ H fun x H1 => ∃ c, x = .bl c ∧ if c = true then tb σ H1 Q else Q (.bl false) H1
def tOrV (ta tb : TE) : TE := fun σ H Q => ta σ H fun x H1 => ∃ c, x = .bl c ∧ if c = true then Q (.bl true) H1 else tb σ H1 Q
def tNotV (ta : TE) : TE := fun σ H Q => ta σ H fun x H1 => ∃ c, x = .bl c ∧ Q (.bl (!c)) H1
theorem pe_one {op} {t : TE} (h : PE X a t) : PE X (.BoolOp op [a] pos) t := fun pins s σ H Q I hw => BoolOp_one (h pins s σ H Q I hw)
theorem pe_and (ha : PE X a ta) (hb : PE X (.BoolOp .And (b :: rest) pos) tb) : PE X (.BoolOp .And (a :: b :: rest) pos) (tAndV ta tb) := by
  intro pins s σ H Q I h
  refine BoolOp_and (thn (ha pins s σ H _ I h) fun v s1 ⟨x, H1, I1, r1, q1⟩ => ?_)
  obtain ⟨c, rfl, q1⟩ := q1
  cases r1
  refine wpAny_truthy_bool ?_
  cases c with
  | true => exact hb pins s1 σ H1 Q I1 q1
  | false => exact ⟨.bl false, H1, I1, rfl, q1⟩
theorem pe_or (ha : PE X a ta) (hb : PE X (.BoolOp .Or (b :: rest) pos) tb) : PE X (.BoolOp .Or (a :: b :: rest) pos) (tOrV ta tb) := by
  intro pins s σ H Q I h
  refine BoolOp_or (thn (ha pins s σ H _ I h) fun v s1 ⟨x, H1, I1, r1, q1⟩ => ?_)
  obtain ⟨c, rfl, q1⟩ := q1
  cases r1
  refine wpAny_truthy_bool ?_
  cases c with
  | false => exact hb pins s1 σ H1 Q I1 q1
  | true => exact ⟨.bl true, H1, I1, rfl, q1⟩
theorem pe_not (ha : PE X a ta) : PE X (.UnaryOp .Not a pos) (tNotV ta) := by
  intro pins s σ H Q I h
  refine UnaryOp_ (thn (ha pins s σ H _ I h) fun v s1 ⟨x, H1, I1, r1, q1⟩ => ?_)
  obtain ⟨c, rfl, q1⟩ := q1
  cases r1
  exact not_of (wpAny_truthy_bool ⟨.bl (!c), H1, I1, rfl, q1⟩)
def tIf (t : TT) (ta tb : TE) : TE := fun σ H Q => t σ H fun c H1 => if c = true then ta σ H1 Q else tb σ H1 Q
theorem pe_ifExp {c : Expr} (hc : PT X c tA) (ha : PE X a ta) (hb : PE X b tb) : PE X (.IfExp c a b pos) (tIf tA ta tb) := by
  intro pins s σ H Q I h
  refine wpAny_IfExp (thn (hc pins s σ H _ I h) fun d s1 ⟨H1, I1, q1⟩ => ?_)
  cases d with
  | true => exact ha pins s1 σ H1 Q I1 q1
  | false => exact hb pins s1 σ H1 Q I1 q1
end
end L2

namespace L2
open PySem PySem.Spec PyProof.Rows

def SqL (K : PySem.W.Frag) (H : Hp) (a : Addr) (xs : List V) : Prop :=
  Rd H a (.lst xs) ∨
    ∃ (o : Obj) (its : Array Value) (n : Nat), K.lookup a = some o ∧ o.cls = .type "list" ∧ o.dict = none ∧ o.data = .seq its n ∧ its.size ≤ sizeLine ∧ Vals xs its.toList
def SqT (K : PySem.W.Frag) (H : Hp) (a : Addr) (xs : List V) : Prop :=
  Rd H a (.tup xs) ∨
    ∃ (o : Obj) (its : Array Value) (n : Nat), K.lookup a = some o ∧ o.cls = .type "tuple" ∧ o.data = .seq its n ∧ its.size ≤ sizeLine ∧ Vals xs its.toList
def absV : Value → Option V
  | .none => some .non
  | .bool b => some (.bl b)
  | .int i _ => some (.int i)
  | .str x _ => some (.str x)
  | .bytes b _ => some (.byt b)
  | .float b _ => some (.flt b)
  | .ref a => some (.ref a)
  | .type n => some (.ty n)
  | _ => none
theorem RelV.abs {x : V} {u : Value} (r : RelV x u) : absV u = some x := by
  cases x with
  | non => cases r; rfl
  | bl _ => cases r; rfl
  | int _ => obtain ⟨t, rfl⟩ := r; rfl
  | str _ => obtain ⟨t, rfl⟩ := r; rfl
  | byt _ => obtain ⟨t, rfl⟩ := r; rfl
  | flt _ => obtain ⟨t, rfl⟩ := r; rfl
  | ref _ => cases r; rfl
  | ty _ => cases r; rfl
theorem RelV.inj {x y : V} {u : Value} (r : RelV x u) (q : RelV y u) : x = y := Option.some.inj (r.abs.symm.trans q.abs)
theorem Vals.inj : ∀ {xs ys : List V} {us : List Value}, Vals xs us → Vals ys us → xs = ys
  | _, _, _, .nil, .nil => rfl
  | _, _, _, .cons r t, .cons r' t' => by rw [r.inj r', Vals.inj t t']
section
variable {X : Cx} {pins : List (Addr × Obj)} {σ : St} {H : Hp} {s : Shared} {a : Addr} {xs ys : List V}
theorem SqL.of {K : PySem.W.Frag} (h : H a = some (.lst xs)) : SqL K H a xs := .inl (.inl h)
theorem SqT.of {K : PySem.W.Frag} (h : H a = some (.tup xs)) : SqT K H a xs := .inl (.inl h)
theorem Inv.list (I : Inv X pins σ H s) (h : SqL X.K H a xs) : ∃ its : List Value, Vals xs its ∧ PlainL s.heap a its.toArray ∧ xs.length ≤ sizeLine := by
  rcases h with h | ⟨o, its, n, hk, hc, hd, hs, hz, r⟩
  · obtain ⟨z, its, n, r, e⟩ := h.ok I.hok
    exact ⟨its, r, ⟨_, n, e, rfl, rfl, rfl⟩, z⟩
  · refine ⟨its.toList, r, ⟨o, n, I.kIn a o hk, hc, hd, by simpa using hs⟩, ?_⟩
    have e := r.length
    simp only [Array.length_toList] at e
    omega
theorem Inv.tuple (I : Inv X pins σ H s) (h : SqT X.K H a xs) : ∃ its : List Value, Vals xs its ∧ IsTup s.heap a its.toArray ∧ xs.length ≤ sizeLine := by
  rcases h with h | ⟨o, its, n, hk, hc, hs, hz, r⟩
  · obtain ⟨z, its, r, p⟩ := h.ok I.hok
    exact ⟨its, r, p, z⟩
  · refine ⟨its.toList, r, ⟨o, I.kIn a o hk, hc, n, by simpa using hs⟩, ?_⟩
    have e := r.length
    simp only [Array.length_toList] at e
    omega
theorem Inv.list_inj (I : Inv X pins σ H s) (h : SqL X.K H a xs) (h' : SqL X.K H a ys) : xs = ys := by
  obtain ⟨its, r, ⟨o, n, e, _, _, d⟩, _⟩ := I.list h
  obtain ⟨its', r', ⟨o', n', e', _, _, d'⟩, _⟩ := I.list h'
  rw [e] at e'; cases e'
  rw [d] at d'
  injection d' with d1 _
  have : its = its' := by simpa using congrArg Array.toList d1
  subst this
  exact r.inj r'
theorem Inv.tuple_inj (I : Inv X pins σ H s) (h : SqT X.K H a xs) (h' : SqT X.K H a ys) : xs = ys := by
  obtain ⟨its, r, ⟨o, e, _, n, d⟩, _⟩ := I.tuple h
  obtain ⟨its', r', ⟨o', e', _, n', d'⟩, _⟩ := I.tuple h'
  rw [e] at e'; cases e'
  rw [d] at d'
  injection d' with d1 _
  have : its = its' := by simpa using congrArg Array.toList d1
  subst this
  exact r.inj r'
end

abbrev Cx.wish (X : Cx) (E : Value → Shared → Prop) : Cx := { X with xe := E }
abbrev Cx.nox (X : Cx) : Cx := X.wish fun _ _ => False
theorem Cx.Ok.wish {X : Cx} (ok : X.Ok) (E : Value → Shared → Prop) : (X.wish E).Ok :=
  ⟨ok.mod, ok.kind, ok.glob, ok.blt, ok.above, ok.inj, ok.has, ok.cab, ok.hd, ok.frames, ok.stk, ok.exf, ok.bs, ok.bsz, ok.noex, ok.exfs, ok.funs, ok.frf⟩
theorem Cx.Ok.unwish {X : Cx} {E : Value → Shared → Prop} (ok : (X.wish E).Ok) : X.Ok :=
  ⟨ok.mod, ok.kind, ok.glob, ok.blt, ok.above, ok.inj, ok.has, ok.cab, ok.hd, ok.frames, ok.stk, ok.exf, ok.bs, ok.bsz, ok.noex, ok.exfs, ok.funs, ok.frf⟩
section
variable {X : Cx} {pins : List (Addr × Obj)} {σ : St} {H : Hp} {s : Shared} {E : Value → Shared → Prop}
theorem Inv.wish (I : Inv X pins σ H s) (E : Value → Shared → Prop) : Inv (X.wish E) pins σ H s := ⟨I.ok.wish E, I.os, I.bare, I.base, I.loc, I.cell, I.free, I.freeC, I.pin, I.hok, I.len⟩
theorem Inv.unwish (I : Inv (X.wish E) pins σ H s) : Inv X pins σ H s := ⟨I.ok.unwish, I.os, I.bare, I.base, I.loc, I.cell, I.free, I.freeC, I.pin, I.hok, I.len⟩
theorem SP.unwish {D : Ends} {f : Flow} {s' : Shared} (h : SP (X.wish E) pins D f s') : SP X pins D f s' := by
  cases f with
  | next => obtain ⟨σ', H', I, q⟩ := h; exact ⟨σ', H', I.unwish, q⟩
  | brk => obtain ⟨σ', H', I, q⟩ := h; exact ⟨σ', H', I.unwish, q⟩
  | cont => obtain ⟨σ', H', I, q⟩ := h; exact ⟨σ', H', I.unwish, q⟩
  | ret u => obtain ⟨v, σ', H', I, r, q⟩ := h; exact ⟨v, σ', H', I.unwish, r, q⟩
theorem PE.nox {e : Expr} {t : TE} (h : PE X.nox e t) : PE X e t := fun pins s σ H Q I hw =>
  wpAny_mono (h pins s σ H Q (I.wish _) hw) (fun _ _ ⟨v, H', I', r, q⟩ => ⟨v, H', I'.unwish, r, q⟩) fun _ _ z => False.elim z
theorem PT.nox {e : Expr} {t : TT} (h : PT X.nox e t) : PT X e t := fun pins s σ H Q I hw =>
  wpAny_mono (h pins s σ H Q (I.wish _) hw) (fun _ _ ⟨H', I', q⟩ => ⟨H', I'.unwish, q⟩) fun _ _ z => False.elim z
theorem PSs.nox {st : List Stmt} {t : TS} (h : PSs X.nox st t) : PSs X st t := fun pins s σ H D I hw =>
  wpAny_mono (h pins s σ H D (I.wish _) hw) (fun _ _ q => q.unwish) fun _ _ z => False.elim z
end

section
variable {X : Cx} {st : Stmt} {rest : List Stmt} {t u : TS} {e : Expr} {te : TE} {pos : Pos}
def tNext : TS := fun D σ H => D.nx σ H
def tSeq (t u : TS) : TS := fun D σ H => t { D with nx := u D } σ H
theorem pss_nil : PSs X [] tNext := fun _ _ σ H _ I h => wpAny_execs_nil ⟨σ, H, I, h⟩
theorem pss_cons (h1 : PS X st t) (h2 : PSs X rest u) : PSs X (st :: rest) (tSeq t u) := by
  intro pins s σ H D I h
  refine wpAny_execs_cons (thn (h1 pins s σ H { D with nx := u D } I h) fun f s1 q => ?_)
  cases f with
  | next =>
    obtain ⟨σ', H', I', q⟩ := q
    exact h2 pins s1 σ' H' D I' q
  | ret v => exact q
  | brk => exact q
  | cont => exact q
theorem pss_one (h1 : PS X st t) : PSs X [st] t := by
  intro pins s σ H D I h
  refine wpAny_execs_cons (thn (h1 pins s σ H D I h) fun f s1 q => ?_)
  cases f with
  | next => exact wpAny_execs_nil q
  | ret v => exact q
  | brk => exact q
  | cont => exact q
theorem Inv.quiet {pins : List (Addr × Obj)} {σ : St} {H : Hp} {s : Shared} (I : Inv X pins σ H s) : interactive X.env = false := by simp [interactive, I.ok.kind]
def tDrop (te : TE) : TS := fun D σ H => te σ H fun _ H1 => D.nx σ H1
theorem ps_expr (he : PE X e te) (hs : swapsWith e none pos.line X.env = pure false := by rfl) : PS X (.Expr e pos) (tDrop te) := by
  intro pins s σ H D I h
  exact wpAny_Expr_any (thn (he pins s σ H _ I h) fun v s1 ⟨x, H1, I1, r1, q1⟩ => ⟨σ, H1, I1, q1⟩) I.quiet hs
def tRet (te : TE) : TS := fun D σ H => te σ H D.rt
theorem ps_ret (he : PE X e te) : PS X (.Return (some e) pos) (tRet te) := by
  intro pins s σ H D I h
  exact wpAny_Return_some (thn (he pins s σ H _ I h) fun v s1 ⟨x, H1, I1, r1, q1⟩ => ⟨x, σ, H1, I1, r1, q1⟩)
def tIfS (c : TT) (t u : TS) : TS := fun D σ H => c σ H fun b H1 => if b = true then t D σ H1 else u D σ H1
theorem ps_if {c : Expr} {a b : List Stmt} {tc : TT} (hc : PT X c tc) (ha : PSs X a t) (hb : PSs X b u) : PS X (.If c a b pos) (tIfS tc t u) := by
  intro pins s σ H D I h
  refine wpAny_If (thn (hc pins s σ H _ I h) fun d s1 ⟨H1, I1, q1⟩ => ?_)
  cases d with
  | true => exact ha pins s1 σ H1 D I1 q1
  | false => exact hb pins s1 σ H1 D I1 q1
def tNever : TS := fun _ _ _ => False
theorem ps_never : PS X st tNever := fun _ _ _ _ _ _ h => h.elim
end

abbrev TG := V → St → Hp → (St → Hp → Prop) → Prop
abbrev TGs := List V → St → Hp → (St → Hp → Prop) → Prop
def PG (X : Cx) (target : Expr) (t : TG) : Prop :=
  ∀ (pins : List (Addr × Obj)) (s : Shared) (σ : St) (H : Hp) (v : V) (u : Value) (Q : St → Hp → Prop), Inv X pins σ H s → RelV v u → t v σ H Q →
    wpAny (model X.prog X.w) X.A (assign target X.env u) (fun _ s' => ∃ σ' H', Inv X pins σ' H' s' ∧ Q σ' H') X.xe s
def PGs (X : Cx) (ts : List Expr) (t : TGs) : Prop :=
  ∀ (pins : List (Addr × Obj)) (s : Shared) (σ : St) (H : Hp) (vs : List V) (us : List Value) (Q : St → Hp → Prop), Inv X pins σ H s → Vals vs us → t vs σ H Q →
    wpAny (model X.prog X.w) X.A (assignInOrder ((assignEach ts X.env).map (·.2)) us) (fun _ s' => ∃ σ' H', Inv X pins σ' H' s' ∧ Q σ' H') X.xe s
abbrev TSet := V → V → V → Hp → (Hp → Prop) → Prop
def PSet (X : Cx) (t : TSet) : Prop :=
  ∀ (pins : List (Addr × Obj)) (s : Shared) (σ : St) (H : Hp) (o i v : V) (ov iv u : Value) (Q : Hp → Prop), Inv X pins σ H s → RelV o ov → RelV i iv → RelV v u → t o i v H Q →
    wpAny (model X.prog X.w) X.A (setItem ov iv u) (fun _ s' => ∃ H', Inv X pins σ H' s' ∧ Q H') X.xe s
abbrev TIp := V → V → Hp → VK → Prop
def PIp (X : Cx) (op : Operator) (t : TIp) : Prop :=
  ∀ (pins : List (Addr × Obj)) (s : Shared) (σ : St) (H : Hp) (x y : V) (v u : Value) (Q : VK), Inv X pins σ H s → RelV x v → RelV y u → t x y H Q →
    wpAny (model X.prog X.w) X.A (inplaceOp op v u) (EP X pins σ Q) X.xe s
section
variable {X : Cx} {pos : Pos}
def gName (i : Nat) : TG := fun v σ H Q => Q (σ.set i (some v)) H
theorem pg_name {i : Nat} {x : Str} (hN : X.N.Nodup) (hi : X.N[i]? = some x) (hx : Loc X.env.scope x) (hf : X.fn x = true ∨ X.env.scope.names.lookup x = some .local := by first | exact .inl rfl | exact .inr rfl | assumption) : PG X (.Name x pos) (gName i) := by
  intro pins s σ H v u Q I r h
  exact wpAny_assign_Name (store_ok I hN hi hx r (fun s' I' => ⟨_, H, I', h⟩) hf)
def gNil : TGs := fun vs σ H Q => vs = [] ∧ Q σ H
def gCons (t : TG) (u : TGs) : TGs := fun vs σ H Q => ∃ v r, vs = v :: r ∧ t v σ H fun σ' H' => u r σ' H' Q
theorem pgs_nil : PGs X [] gNil := by
  intro pins s σ H vs us Q I r h
  obtain ⟨e, h⟩ := h
  subst e
  cases r
  exact assignInOrder_nil ⟨σ, H, I, h⟩
theorem pgs_cons {e : Expr} {es : List Expr} {t : TG} {u : TGs} (h1 : PG X e t) (h2 : PGs X es u)
    (hs : (assignEach (e :: es) X.env).map (·.2) = assign e X.env :: (assignEach es X.env).map (·.2) := by rfl) : PGs X (e :: es) (gCons t u) := by
  intro pins s σ H vs us Q I r h
  obtain ⟨v, vr, e1, h⟩ := h
  subst e1
  cases r with
  | cons r rr =>
    rw [hs]
    refine assignInOrder_cons (thn (h1 pins s σ H _ _ _ I r h) fun _ s1 ⟨σ1, H1, I1, q1⟩ => ?_)
    exact h2 pins s1 σ1 H1 _ _ Q I1 rr q1
def gTup (K : PySem.W.Frag) (n : Nat) (t : TGs) : TG := fun v σ H Q => ∃ a xs, v = .ref a ∧ SqT K H a xs ∧ xs.length = n ∧ t xs σ H Q
theorem pg_tup {es : List Expr} {k : Nat} {t : TGs} {n : Nat} (hc : X.calm = true) (h : PGs X es t)
    (hn : (assignEach es X.env).length = n := by rfl) (hst : (assignEach es X.env).findIdx? (·.1) = none := by rfl) : PG X (.Tuple es k pos) (gTup X.K n t) := by
  intro pins s σ H v u Q I r hw
  obtain ⟨a, xs, e1, hq, hl, hw⟩ := hw
  subst e1
  cases r
  obtain ⟨its, rv, ht, hz⟩ := I.tuple hq
  refine assign_Tuple_tuple (I.ok.hd hc) ht (by simp [hn, ← hl, rv.length]) hst fun h' hx => ?_
  have I1 : Inv X pins σ H { s with heap := h' } := I.kept (t' := s.toks) fun b o e => hx b o (Nat.ne_of_lt (Heap.lt_size e)) e
  exact h pins _ σ H xs _ Q I1 (by simpa using rv) hw
def gSub (to ti : TE) (t : TSet) : TG := fun v σ H Q => to σ H fun o H1 => ti σ H1 fun i H2 => t o i v H2 fun H3 => Q σ H3
theorem pg_sub {o i : Expr} {to ti : TE} {t : TSet} (ho : PE X o to) (hi : PE X i ti) (hs : PSet X t)
    (ha : ∀ v, assign (.Subscript o i pos) X.env v = (do
      let ov ← holding [v] (eval o X.env)
      let iv ← holding [v, ov] (eval i X.env)
      standAt pos
      holding [v, ov, iv] (setItem ov iv v)
      release [v, ov, iv] []) := by intro _; rfl) : PG X (.Subscript o i pos) (gSub to ti t) := by
  intro pins s σ H v u Q I r h
  rw [ha]
  refine wpAny_bind (wpAny_holding (thn (ho pins s σ H _ I h) fun ov s1 ⟨x, H1, I1, r1, q1⟩ => ?_))
  refine wpAny_bind (wpAny_holding (thn (hi pins s1 σ H1 _ I1 q1) fun iv s2 ⟨y, H2, I2, r2, q2⟩ => ?_))
  refine wpAny_bind (wpAny_standAt (wpAny_bind (wpAny_holding (thn (hs pins s2 σ H2 x y v ov iv u _ I2 r1 r2 r q2) fun _ s3 ⟨H3, I3, q3⟩ => ?_))))
  exact wpAny_release ⟨σ, H3, I3, q3⟩
def tAsg (te : TE) (g : TG) : TS := fun D σ H => te σ H fun x H1 => g x σ H1 D.nx
theorem ps_asg {tg e : Expr} {te : TE} {g : TG} (he : PE X e te) (hg : PG X tg g) (hs : swapsWithSole [tg] e pos.line X.env = pure false := by rfl) (hw : swappedStores [tg] e X.env = pure none := by rfl)
    (h1 : (assignEach [tg] X.env).map (·.2) = [assign tg X.env] := by rfl) : PS X (.Assign [tg] e pos) (tAsg te g) := by
  intro pins s σ H D I h
  refine wpAny_Assign_stores (thn (he pins s σ H _ I h) fun v s1 ⟨x, H1, I1, r1, q1⟩ => ?_) hs hw
  rw [h1]
  exact thn (hg pins s1 σ H1 x v _ I1 r1 q1) fun _ s2 q => q
theorem ps_set {i : Nat} {x : Str} {e : Expr} {te : TE} {pos' : Pos} (hN : X.N.Nodup) (hi : X.N[i]? = some x) (hx : Loc X.env.scope x) (he : PE X e te) (hs : swapsWith e (some (.Name x pos')) pos.line X.env = pure false := by rfl) (hf : X.fn x = true ∨ X.env.scope.names.lookup x = some .local := by first | exact .inl rfl | exact .inr rfl | assumption) :
    PS X (.Assign [.Name x pos'] e pos) (tAsg te (gName i)) := by
  intro pins s σ H D I h
  refine wpAny_Assign_Name (thn (he pins s σ H _ I h) fun v s1 ⟨y, H1, I1, r1, q1⟩ => ?_) hs
  exact store_ok I1 hN hi hx r1 (fun s2 I2 => ⟨_, H1, I2, q1⟩) hf
def tAug (i : Nat) (te : TE) (ti : TIp) : TS := fun D σ H => ∃ x, σ[i]? = some (some x) ∧ te σ H fun y H1 => ti x y H1 fun z H2 => D.nx (σ.set i (some z)) H2
theorem ps_aug {i : Nat} {x : Str} {e : Expr} {te : TE} {op : Operator} {ti : TIp} {pos' : Pos} (hN : X.N.Nodup) (hi : X.N[i]? = some x) (hx : Loc X.env.scope x) (he : PE X e te) (ho : PIp X op ti) (hf : X.fn x = true ∨ X.env.scope.names.lookup x = some .local := by first | exact .inl rfl | exact .inr rfl | assumption) :
    PS X (.AugAssign (.Name x pos') op e pos) (tAug i te ti) := by
  intro pins s σ H D I h
  obtain ⟨v, e1, h⟩ := h
  obtain ⟨m, hn, hl⟩ := I.loc
  have vis : Vis X.env.scope x := by rcases hx with k | k; exact .inl k; exact .inr (.inl k)
  obtain ⟨u, r, l⟩ := hl i x v hi e1 vis
  refine wpAny_AugAssign_Name ?_
  have go : wpAny (model X.prog X.w) X.A (eval e X.env) (fun w s₂ => wpAny (model X.prog X.w) X.A (inplaceOp op u w) (fun r s₃ => wpAny (model X.prog X.w) X.A (storeName X.env x r) (fun _ => SP X pins D .next) X.xe s₃) X.xe s₂) X.xe s := by
    refine thn (he pins s σ H _ I h) fun w s1 ⟨y, H1, I1, r1, q1⟩ => ?_
    refine thn (ho pins s1 σ H1 v y u w _ I1 r r1 q1) fun z s2 ⟨zv, H2, I2, r2, q2⟩ => ?_
    exact store_ok I2 hN hi hx r2 (fun s3 I3 => ⟨_, H2, I3, q2⟩) hf
  rcases l with ⟨hk, hm⟩ | ⟨hk, c, hc, hcell⟩
  · exact wpAny_loadName_local I.ok.kind hk hn hm go
  · rcases hk with hk | hk
    · exact wpAny_loadName_cell I.ok.kind hk hc hcell go
    · rcases hx with k | k
      · have : X.env.scope.names.lookup x = some .free := hk
        rw [k] at this; cases this
      · have : X.env.scope.names.lookup x = some .free := hk
        rw [k] at this; cases this
def ipI (f : Int → Int → Int) : TIp := fun x y H Q => ∃ i j, x = .int i ∧ y = .int j ∧ Q (.int (f i j)) H
theorem ip_add : PIp X .Add (ipI fun i j => i + j) := by
  intro pins s σ H x y v u Q I r1 r2 h
  obtain ⟨i, j, e1, e2, q⟩ := h
  subst e1; subst e2
  obtain ⟨t, rfl⟩ := r1
  obtain ⟨t', rfl⟩ := r2
  exact iadd_int ⟨.int _, H, I.tok _, ⟨_, rfl⟩, q⟩
end

section
variable {X : Cx} {pos : Pos}
def tWhile (c : TT) (tb : TS) : TS := fun D σ H => ∃ W : Nat → St → Hp → Prop, (∃ m, W m σ H) ∧ ∀ m σ H, W m σ H →
  c σ H fun b H1 => if b = true then ∃ N : St → Hp → Prop, (∀ σ' H', N σ' H' → ∃ m', m' < m ∧ W m' σ' H') ∧ tb { D with nx := N, ct := N, bk := D.nx } σ H1 else D.nx σ H1
theorem ps_while {c : Expr} {body : List Stmt} {tc : TT} {tb : TS} (hp : PassesOwn (model X.prog X.w) X.A X.env X.xe) (hc : PT X c tc) (hb : PSs X body tb) : PS X (.While c body [] pos) (tWhile tc tb) := by
  intro pins s σ H D I h
  obtain ⟨W, ⟨m0, w0⟩, turn⟩ := h
  refine wpAny_While (codeAny_whileLoop (fun n s' => ∃ σ' H', Inv X pins σ' H' s' ∧ W n σ' H') ?_ m0 ⟨σ, H, I, w0⟩)
  rintro n s1 ⟨σ1, H1, I1, w1⟩
  refine wpAny_passesOwn hp (thn (hc pins s1 σ1 H1 _ I1 (turn n σ1 H1 w1)) fun b s2 ⟨H2, I2, q2⟩ => ?_)
  cases b with
  | true =>
    obtain ⟨N, hN, q2⟩ := q2
    rw [if_pos rfl]
    refine wpAny_passesOwn hp (thn (hb pins s2 σ1 H2 _ I2 q2) fun f s3 q3 => ?_)
    cases f with
    | next =>
      obtain ⟨σ3, H3, I3, n3⟩ := q3
      obtain ⟨m', hm, w3⟩ := hN σ3 H3 n3
      exact ⟨m', hm, σ3, H3, I3, w3⟩
    | cont =>
      obtain ⟨σ3, H3, I3, n3⟩ := q3
      obtain ⟨m', hm, w3⟩ := hN σ3 H3 n3
      exact ⟨m', hm, σ3, H3, I3, w3⟩
    | brk => exact q3
    | ret v => exact q3
  | false =>
    rw [if_neg Bool.false_ne_true]
    exact wpAny_execs_nil ⟨σ1, H2, I2, q2⟩
end

structure It where
  go : Nat → Hp → Prop
  yld : Nat → Hp → V → Hp → Prop
  stop : Nat → Hp → Prop
def FpOk (X : Cx) (pins : List (Addr × Obj)) (H : Hp) (b : Addr) : Prop :=
  H b = none ∧ b ≠ X.env.locals ∧ b ∉ X.fs ∧ (b ∈ X.ex ∨ X.s₀.heap.objs.size ≤ b) ∧ (∀ x c, X.env.cells.lookup x = some c → c ≠ b) ∧ ∀ p ∈ X.pn ++ pins, p.1 ≠ b
theorem Inv.fpOk {X : Cx} {pins : List (Addr × Obj)} {σ : St} {H H' : Hp} {s : Shared} {b : Addr} (I : Inv X pins σ H s) (hb : s.heap.objs.size ≤ b) (hn : H' b = none) : FpOk X pins H' b := by
  refine ⟨hn, Nat.ne_of_gt (Nat.lt_of_lt_of_le I.lt hb), I.nofs hb, .inr (Nat.le_trans I.sz hb), fun x c e z => ?_, fun p hp z => ?_⟩
  · obtain ⟨v, q⟩ := I.cell x c e
    exact absurd (Nat.lt_of_lt_of_le q.lt (by rw [z]; exact hb)) (Nat.lt_irrefl _)
  · exact absurd (Nat.lt_of_lt_of_le (Heap.lt_size (I.pin p hp).1) (by rw [z]; exact hb)) (Nat.lt_irrefl _)
structure Turn (P : Program) (w : World) (K : PySem.W.Frag) (tg : Expr) (J : It) (fp : List Addr) (it : Addr) (tn : Nat → Heap → Prop) : Prop where
  mem : it ∈ fp
  obj : ∀ i h, tn i h → ∀ b ∈ fp, ∃ o, h.get? b = some o ∧ ∀ v, o.data ≠ .cell v
  keep : ∀ i h h', tn i h → (∀ b ∈ fp, ∀ o, h.get? b = some o → h'.get? b = some o) → tn i h'
  item : ∀ (X : Cx), X.prog = P → X.w = w → X.K = K → X.calm = true → ∀ (i : Nat) (pins : List (Addr × Obj)) (s : Shared) (σ : St) (H : Hp) (E : Value → Shared → Prop), Inv X pins σ H s → (∀ b ∈ fp, FpOk X pins H b) → tn i s.heap → J.go i H →
    wpAny (model P w) X.A (pyNext (.ref it)) (fun r s1 => ∃ u, r = some u ∧
      wpAny (model P w) X.A (letOwnedTupleGo tg (.ref it) u) (fun _ s2 => ∃ x H', Inv X pins σ H' s2 ∧ RelV x u ∧ J.yld i H x H' ∧ tn (i + 1) s2.heap ∧ ∀ b ∈ fp, H' b = none) E s1) E s
  done : ∀ (X : Cx), X.prog = P → X.w = w → X.K = K → X.calm = true → ∀ (i : Nat) (pins : List (Addr × Obj)) (s : Shared) (σ : St) (H : Hp) (E : Value → Shared → Prop), Inv X pins σ H s → (∀ b ∈ fp, FpOk X pins H b) → tn i s.heap → J.stop i H →
    wpAny (model P w) X.A (pyNext (.ref it)) (fun r s1 => r = none ∧ Inv X pins σ H s1) E s
  self : ∀ (A : Around) (i : Nat) (s : Shared) (Q : Value → Shared → Prop) (E : Value → Shared → Prop), tn i s.heap → Q (.ref it) s → wpAny (model P w) A (pyIter (.ref it)) Q E s
abbrev TI := St → Hp → (It → Hp → Prop) → Prop
def PIE (X : Cx) (pins : List (Addr × Obj)) (σ : St) (tg : Expr) (R : It → Hp → Prop) (itv : Value) (s2 : Shared) : Prop :=
  ∃ (it : Addr) (fp : List Addr) (tn : Nat → Heap → Prop) (J : It) (H' : Hp), itv = .ref it ∧ Inv X pins σ H' s2 ∧ Turn X.prog X.w X.K tg J fp it tn ∧ tn 0 s2.heap ∧ (∀ b ∈ fp, FpOk X pins H' b) ∧ R J H'
def PI (X : Cx) (tg iter : Expr) (wi : TI) : Prop :=
  ∀ (pins : List (Addr × Obj)) (s : Shared) (σ : St) (H : Hp) (R : It → Hp → Prop), Inv X pins σ H s → wi σ H R →
    wpAny (model X.prog X.w) X.A (eval iter X.env) (fun v s1 => wpAny (model X.prog X.w) X.A (pyIter v) (PIE X pins σ tg R) X.xe s1) X.xe s

theorem go_of {M : Model} {A : Around} {E : Value → Shared → Prop} {s : Shared} {tg : Expr} {it : Addr} {u : Value} {o : Obj} {n : String} {vs : Array Value} {Q : Unit → Shared → Prop} (ho : s.heap.get? it = some o) (hc : o.cls = .type n) (hd : o.data = .fields vs)
    (hn : ["enumerate", "zip", "dict_itemiterator", "dict_reverseitemiterator", "odict_iterator", "itertools.zip_longest", "itertools.pairwise"].contains n = false) (hQ : Q () s) : wpAny M A (letOwnedTupleGo tg (.ref it) u) Q E s := by
  unfold letOwnedTupleGo
  cases tg <;> first
    | exact wpAny_pure hQ
    | (cases u <;> first
        | exact wpAny_pure hQ
        | (refine wpAny_bind (wpAny_load ho ?_)
           rw [hc, hd]
           show wpAny M A (if (["enumerate", "zip", "dict_itemiterator", "dict_reverseitemiterator", "odict_iterator", "itertools.zip_longest", "itertools.pairwise"].contains n && vs[0]? == some (rawInt _)) = true then _ else _) Q E s
           rw [if_neg (by intro h; rw [hn, Bool.false_and] at h; cases h)]
           exact wpAny_pure hQ))

def Itl (K : PySem.W.Frag) (a : Addr) : It :=
  ⟨fun i H => ∃ xs x, SqL K H a xs ∧ xs[i]? = some x, fun i H x H' => H' = H ∧ ∀ xs, SqL K H a xs → xs[i]? = some x, fun i H => ∃ xs, SqL K H a xs ∧ xs.length ≤ i⟩
def Itt (K : PySem.W.Frag) (a : Addr) : It :=
  ⟨fun i H => ∃ xs x, SqT K H a xs ∧ xs[i]? = some x, fun i H x H' => H' = H ∧ ∀ xs, SqT K H a xs → xs[i]? = some x, fun i H => ∃ xs, SqT K H a xs ∧ xs.length ≤ i⟩
def Itr (lo : Int) (n : Nat) : It := ⟨fun i _ => i < n, fun i H x H' => H' = H ∧ x = .int (lo + i), fun i _ => n ≤ i⟩
theorem turn_list {P : Program} {w : World} {K : PySem.W.Frag} {tg : Expr} (a it : Addr) : Turn P w K tg (Itl K a) [it] it (fun i h => h.IsListIter it a i) where
  mem := by simp
  obj := fun i h st b hb => by
    have e : b = it := by simpa using hb
    subst e
    obtain ⟨o, e, c, d⟩ := st
    exact ⟨o, e, fun v z => by rw [d] at z; cases z⟩
  keep := fun i h h' st k => st.at fun o e => k it (by simp) o e
  item := by
    intro X hP hw hK hc i pins s σ H E I hf st hg
    subst hP hw hK
    obtain ⟨xs, x, hq, hx⟩ := hg
    obtain ⟨its, rv, p, hz⟩ := I.list hq
    obtain ⟨u, hu, ru⟩ := rv.get hx
    obtain ⟨f0, f1, f2, f3, f4, f5⟩ := hf it (by simp)
    refine wpAny_pyNext_list_item st p.isList (x := u) (by simpa using hu) fun h' st' sb => ?_
    have I1 : Inv X pins σ H { s with heap := h' } := I.turned (t' := s.toks) (fun b o hb e => (sb.2 b hb).trans e) f0 f1 f3 f4 f5
    obtain ⟨o, e, c, d⟩ := id st'
    exact ⟨u, rfl, go_of (s := { s with heap := h' }) e c d (by decide) ⟨x, H, I1, ru, ⟨rfl, fun ys hy => by rw [I.list_inj hy hq]; exact hx⟩, st', fun b hb => (hf b hb).1⟩⟩
  done := by
    intro X hP hw hK hc i pins s σ H E I hf st hg
    subst hP hw hK
    obtain ⟨xs, hq, hx⟩ := hg
    obtain ⟨its, rv, p, hz⟩ := I.list hq
    obtain ⟨f0, f1, f2, f3, f4, f5⟩ := hf it (by simp)
    have hl := rv.length
    exact wpAny_pyNext_list_end (I.ok.hd hc) st p.isList (by simp; omega) fun h' eb => ⟨rfl, I.turned (t' := s.toks) (fun b o hb e => eb b o hb e) f0 f1 f3 f4 f5⟩
  self := fun _ _ _ _ _ st h => wpAny_pyIter_listiter st h
theorem turn_tuple {P : Program} {w : World} {K : PySem.W.Frag} {tg : Expr} (a it : Addr) : Turn P w K tg (Itt K a) [it] it (fun i h => h.IsTupleIter it a i) where
  mem := by simp
  obj := fun i h st b hb => by
    have e : b = it := by simpa using hb
    subst e
    obtain ⟨o, e, c, d⟩ := st
    exact ⟨o, e, fun v z => by rw [d] at z; cases z⟩
  keep := fun i h h' st k => st.at fun o e => k it (by simp) o e
  item := by
    intro X hP hw hK hc i pins s σ H E I hf st hg
    subst hP hw hK
    obtain ⟨xs, x, hq, hx⟩ := hg
    obtain ⟨its, rv, p, hz⟩ := I.tuple hq
    obtain ⟨u, hu, ru⟩ := rv.get hx
    obtain ⟨f0, f1, f2, f3, f4, f5⟩ := hf it (by simp)
    refine wpAny_pyNext_tuple_item st (show s.heap.IsTuple a its.toArray from p) (x := u) (by simpa using hu) fun h' st' sb => ?_
    have I1 : Inv X pins σ H { s with heap := h' } := I.turned (t' := s.toks) (fun b o hb e => (sb.2 b hb).trans e) f0 f1 f3 f4 f5
    obtain ⟨o, e, c, d⟩ := id st'
    exact ⟨u, rfl, go_of (s := { s with heap := h' }) e c d (by decide) ⟨x, H, I1, ru, ⟨rfl, fun ys hy => by rw [I.tuple_inj hy hq]; exact hx⟩, st', fun b hb => (hf b hb).1⟩⟩
  done := by
    intro X hP hw hK hc i pins s σ H E I hf st hg
    subst hP hw hK
    obtain ⟨xs, hq, hx⟩ := hg
    obtain ⟨its, rv, p, hz⟩ := I.tuple hq
    obtain ⟨f0, f1, f2, f3, f4, f5⟩ := hf it (by simp)
    have hl := rv.length
    exact wpAny_pyNext_tuple_end (I.ok.hd hc) st (show s.heap.IsTuple a its.toArray from p) (by simp; omega) fun h' eb => ⟨rfl, I.turned (t' := s.toks) (fun b o hb e => eb b o hb e) f0 f1 f3 f4 f5⟩
  self := fun _ _ _ _ _ st h => wpAny_pyIter_tupleiter st h
theorem turn_range {P : Program} {w : World} {K : PySem.W.Frag} {tg : Expr} (it : Addr) (lo : Int) (n : Nat) : Turn P w K tg (Itr lo n) [it] it (fun i h => IsRangeIter h it (lo + (i : Nat) * 1) ((n : Int) - (i : Nat)) 1) where
  mem := by simp
  obj := fun i h st b hb => by
    have e : b = it := by simpa using hb
    subst e
    exact ⟨_, st, fun v z => by
      have z' : Data.fields _ = Data.cell v := z
      cases z'⟩
  keep := fun i h h' st k => k it (by simp) _ st
  item := by
    intro X hP hw hK hc i pins s σ H E I hf st hg
    subst hP hw hK
    obtain ⟨f0, f1, f2, f3, f4, f5⟩ := hf it (by simp)
    have W := Walks.range (prog := X.prog) (w := X.w) (I.ok.hd hc) it lo 1 n
    refine W.item i s _ _ hg st fun v h' tk hv st' kk => ?_
    obtain ⟨t, rfl⟩ := hv
    have I1 : Inv X pins σ H { s with heap := h', toks := tk } := I.turned (fun b o hb e => kk b o (by simpa using hb) e) f0 f1 f3 f4 f5
    refine ⟨_, rfl, go_of (s := { s with heap := h', toks := tk }) (n := "range_iterator") st' rfl rfl (by decide) ⟨.int (lo + i), H, I1, ⟨t, ?_⟩, ⟨rfl, rfl⟩, st', fun b hb => (hf b hb).1⟩⟩
    rw [Int.mul_one]
  done := by
    intro X hP hw hK hc i pins s σ H E I hf st hg
    subst hP hw hK
    obtain ⟨f0, f1, f2, f3, f4, f5⟩ := hf it (by simp)
    exact wpAny_pyNext_range_end (I.ok.hd hc) st (by have : n ≤ i := hg; omega) fun h' eb => ⟨rfl, I.turned (t' := s.toks) (fun b o hb e => eb b o hb e) f0 f1 f3 f4 f5⟩
  self := fun _ _ _ _ _ st h => wpAny_pyIter_rangeiter st h
end L2

namespace L2
open PySem PySem.Spec PyProof.Rows
section
variable {X : Cx} {tg : Expr}
def iList (K : PySem.W.Frag) (tl : TE) : TI := fun σ H R => tl σ H fun x H1 => ∃ a, x = .ref a ∧ (∃ xs, SqL K H1 a xs) ∧ R (Itl K a) H1
def iTup (K : PySem.W.Frag) (tl : TE) : TI := fun σ H R => tl σ H fun x H1 => ∃ a, x = .ref a ∧ (∃ xs, SqT K H1 a xs) ∧ R (Itt K a) H1
theorem pi_list {l : Expr} {tl : TE} (hl : PE X l tl) : PI X tg l (iList X.K tl) := by
  intro pins s σ H R I h
  refine thn (hl pins s σ H _ I h) fun v s1 ⟨x, H1, I1, r1, q1⟩ => ?_
  obtain ⟨a, e, ⟨xs, hq⟩, q⟩ := q1
  subst e
  cases r1
  obtain ⟨its, rv, p, hz⟩ := I1.list hq
  refine wpAny_pyIter_list p.isList ?_
  refine ⟨s1.heap.objs.size, [s1.heap.objs.size], _, _, H1, rfl, I1.kept (t' := s1.toks) fun b o e => Heap.get?_push_of_some _ e, turn_list a _, ⟨_, Heap.get?_push_size _ rfl, rfl, rfl⟩, fun b hb => ?_, q⟩
  have e : b = s1.heap.objs.size := by simpa using hb
  subst e
  exact I1.fpOk (Nat.le_refl _) (I1.hok.fresh (Nat.le_refl _))
theorem pi_tup {l : Expr} {tl : TE} (hl : PE X l tl) : PI X tg l (iTup X.K tl) := by
  intro pins s σ H R I h
  refine thn (hl pins s σ H _ I h) fun v s1 ⟨x, H1, I1, r1, q1⟩ => ?_
  obtain ⟨a, e, ⟨xs, hq⟩, q⟩ := q1
  subst e
  cases r1
  obtain ⟨its, rv, p, hz⟩ := I1.tuple hq
  refine wpAny_pyIter_tuple (show s1.heap.IsTuple a its.toArray from p) ?_
  refine ⟨s1.heap.objs.size, [s1.heap.objs.size], _, _, H1, rfl, I1.kept (t' := s1.toks) fun b o e => Heap.get?_push_of_some _ e, turn_tuple a _, ⟨_, Heap.get?_push_size _ rfl, rfl, rfl⟩, fun b hb => ?_, q⟩
  have e : b = s1.heap.objs.size := by simpa using hb
  subst e
  exact I1.fpOk (Nat.le_refl _) (I1.hok.fresh (Nat.le_refl _))
theorem range_it {pins : List (Addr × Obj)} {σ : St} {H : Hp} {s : Shared} {R : It → Hp → Prop} {E : Value → Shared → Prop} {lo hi : Int} {t u v : Tok} {tk : Nat} (I : Inv X pins σ H s) (h1 : -(2 ^ 62) ≤ lo) (h2 : lo < 2 ^ 62) (h3 : -(2 ^ 62) ≤ hi) (h4 : hi < 2 ^ 62)
    (q : R (Itr lo (hi - lo).toNat) H) : wpAny (model X.prog X.w) X.A (pyIter (.ref s.heap.objs.size)) (PIE X pins σ tg R) E { s with heap := s.heap.push { cls := .type "range", data := .fields #[.int lo t, .int hi u, .int 1 v] }, toks := tk } := by
  refine wpAny_pyIter_range (IsRange.new ..) (small_one h1 h2 h3 h4) ?_
  have I1 : Inv X pins σ H { s with heap := s.heap.push { cls := .type "range", data := .fields #[.int lo t, .int hi u, .int 1 v] }, toks := tk } := I.kept fun b o e => Heap.get?_push_of_some _ e
  refine ⟨(s.heap.push { cls := .type "range", data := .fields #[.int lo t, .int hi u, .int 1 v] }).objs.size, [(s.heap.push { cls := .type "range", data := .fields #[.int lo t, .int hi u, .int 1 v] }).objs.size], _, _, H, rfl,
    I1.kept (t' := tk) fun b o e => Heap.get?_push_of_some _ e, turn_range _ lo (hi - lo).toNat, ?_, fun b hb => ?_, q⟩
  · have e1 : lo + ((0 : Nat) : Int) * 1 = lo := by simp
    have e2 : (((hi - lo).toNat : Nat) : Int) - ((0 : Nat) : Int) = Builtin.Range.rangeSize lo hi 1 := by rw [rangeSize_one]; split <;> omega
    show IsRangeIter _ _ (lo + ((0 : Nat) : Int) * 1) ((((hi - lo).toNat : Nat) : Int) - ((0 : Nat) : Int)) 1
    rw [e1, e2]
    exact Heap.get?_push_size _ rfl
  · have e : b = (s.heap.push { cls := .type "range", data := .fields #[.int lo t, .int hi u, .int 1 v] }).objs.size := by simpa using hb
    subst e
    exact I1.fpOk (Nat.le_refl _) (I1.hok.fresh (Nat.le_refl _))
def iRng1 (ta : TA) : TI := fun σ H R => ta σ H fun vs H1 => ∃ j : Int, vs = [.int j] ∧ -(2 ^ 62) ≤ j ∧ j < 2 ^ 62 ∧ R (Itr 0 j.toNat) H1
theorem pi_range1 {a : Expr} {ta : TA} {p pos : Pos} (hg : Gl X "range") (hm : X.mg "range" = none) (ha : PA X [a] ta) (hs : starEach [a] X.env = [(false, eval a X.env)] := by rfl) : PI X tg (.Call (.Name "range" p) [a] [] pos) (iRng1 ta) := by
  intro pins s σ H R I h
  refine Call_ (ld_blt I hg hm boot_range (PyProof.Rows.callWith_type1 (thn (ha pos pins s σ H _ I h) fun us s1 ⟨vs, H1, I1, r1, q1⟩ => ?_) hs rfl))
  obtain ⟨j, e, q1, q2, q⟩ := q1
  subst e
  cases r1 with
  | cons r rr =>
    cases rr
    obtain ⟨t, rfl⟩ := r
    exact call_range_1 (range_it I1 (by omega) (by omega) q1 q2 (by simpa using q))

def tFor (wi : TI) (g : TG) (tb : TS) : TS := fun D σ H => wi σ H fun J H1 => ∃ W : Nat → Nat → St → Hp → Prop, (∃ m, W 0 m σ H1) ∧ ∀ i m σ H, W i m σ H →
  (J.stop i H ∧ D.nx σ H) ∨ (J.go i H ∧ ∃ N : St → Hp → Prop, (∀ σ' H', N σ' H' → ∃ m', m' < m ∧ W (i + 1) m' σ' H') ∧ ∀ x H', J.yld i H x H' → g x σ H' fun σ2 H2 => tb { D with nx := N, ct := N, bk := D.nx } σ2 H2)
def pinsAt (fp : List Addr) (h : Heap) : List (Addr × Obj) := fp.filterMap fun b => (h.get? b).map fun o => (b, o)
theorem mem_pinsAt {fp : List Addr} {h : Heap} {b : Addr} {o : Obj} (hb : b ∈ fp) (e : h.get? b = some o) : (b, o) ∈ pinsAt fp h := List.mem_filterMap.mpr ⟨b, hb, by rw [e]; rfl⟩
theorem of_pinsAt {fp : List Addr} {h : Heap} {p : Addr × Obj} (hp : p ∈ pinsAt fp h) : p.1 ∈ fp ∧ h.get? p.1 = some p.2 := by
  obtain ⟨b, hb, e⟩ := List.mem_filterMap.mp hp
  cases q : h.get? b with
  | none => rw [q] at e; cases e
  | some o =>
    rw [q] at e
    have e' : (b, o) = p := Option.some.inj e
    subst e'
    exact ⟨hb, q⟩
theorem Inv.pinned {pins : List (Addr × Obj)} {σ : St} {H : Hp} {s : Shared} {fp : List Addr} (I : Inv X pins σ H s) (hf : ∀ b ∈ fp, FpOk X pins H b) (ho : ∀ b ∈ fp, ∃ o, s.heap.get? b = some o ∧ ∀ v, o.data ≠ .cell v) : Inv X (pins ++ pinsAt fp s.heap) σ H s :=
  I.pins_of fun p hp => (List.mem_append.mp hp).elim (fun z => I.pin p (List.mem_append_right _ z)) fun z => by
    obtain ⟨hb, e⟩ := of_pinsAt z
    obtain ⟨f0, f1, f2, _⟩ := hf p.1 hb
    obtain ⟨o, e', d⟩ := ho p.1 hb
    rw [e] at e'; cases e'
    exact ⟨e, f0, f1, f2, d⟩
theorem Inv.unpinned {pins pl : List (Addr × Obj)} {σ : St} {H : Hp} {s : Shared} (I : Inv X (pins ++ pl) σ H s) : Inv X pins σ H s := I.pins_of fun p hp => I.pin p (List.mem_append_right _ (List.mem_append_left _ hp))
theorem ps_for {iter : Expr} {body : List Stmt} {wi : TI} {g : TG} {tb : TS} {pos : Pos} (hp : PassesOwn (model X.prog X.w) X.A X.env X.xe) (hc : X.calm = true) (hi : PI X tg iter wi) (hg : PG X tg g) (hb : PSs X body tb)
    (hs : ∀ x, foldedSetIterable iter X.env x = pure x := by intro _; rfl) : PS X (.For tg iter body [] pos) (tFor wi g tb) := by
  intro pins s σ H D I h
  refine wpAny_For (thn (hi pins s σ H _ I h) fun v s1 h1 => thn h1 fun itv s2 h2 => ?_) hs
  obtain ⟨it, fp, tn, J, H2, e, I2, T, st2, f2, W, ⟨m0, w0⟩, turn⟩ := h2
  subst e
  -- what stays true of the iterator's objects through the loop
  have stat : ∀ {H' : Hp}, (∀ b ∈ fp, H' b = none) → ∀ b ∈ fp, FpOk X pins H' b := fun hn b hb => ⟨hn b hb, (f2 b hb).2⟩
  refine codeAny_forLoop_any (fun n s' => ∃ i σ' H', Inv X pins σ' H' s' ∧ tn i s'.heap ∧ (∀ b ∈ fp, H' b = none) ∧ W i n σ' H') ?_ m0 ⟨0, σ, H2, I2, st2, fun b hb => (f2 b hb).1, w0⟩
  rintro n s3 ⟨i, σ3, H3, I3, st3, fr3, w3⟩
  rcases turn i n σ3 H3 w3 with ⟨stop, qn⟩ | ⟨go, N, hN, step⟩
  · refine wpAny_passesOwn hp (thn (T.done X rfl rfl rfl hc i pins s3 σ3 H3 X.xe I3 (stat fr3) st3 stop) fun r s4 ⟨hr, I4⟩ => ?_)
    subst hr
    exact wpAny_execs_nil ⟨σ3, H3, I4, qn⟩
  · refine wpAny_passesOwn hp (thn (T.item X rfl rfl rfl hc i pins s3 σ3 H3 X.xe I3 (stat fr3) st3 go) fun r s4 ⟨u, hr, h4⟩ => ?_)
    subst hr
    refine wpAny_passesOwn hp (thn h4 fun _ s5 ⟨x, H5, I5, r5, y5, st5, fr5⟩ => ?_)
    have I5' := I5.pinned (stat fr5) (T.obj _ _ st5)
    refine wpAny_passesOwn hp (thn (hg _ s5 σ3 H5 x u _ I5' r5 (step x H5 y5)) fun _ s6 ⟨σ6, H6, I6, q6⟩ => ?_)
    refine wpAny_passesOwn hp (thn (hb _ s6 σ6 H6 _ I6 q6) fun f s7 q7 => ?_)
    have again : ∀ {σ7 : St} {H7 : Hp}, Inv X (pins ++ pinsAt fp s5.heap) σ7 H7 s7 → N σ7 H7 → ∃ m, m < n ∧ ∃ i σ' H', Inv X pins σ' H' s7 ∧ tn i s7.heap ∧ (∀ b ∈ fp, H' b = none) ∧ W i m σ' H' := fun {σ7 H7} I7 n7 => by
      obtain ⟨m', hm, w7⟩ := hN σ7 H7 n7
      refine ⟨m', hm, i + 1, σ7, H7, I7.unpinned, T.keep _ _ _ st5 fun b hb o e => (I7.pin (b, o) (List.mem_append_right _ (List.mem_append_right _ (mem_pinsAt hb e)))).1, fun b hb => ?_, w7⟩
      obtain ⟨o, e, d⟩ := T.obj _ _ st5 b hb
      exact (I7.pin (b, o) (List.mem_append_right _ (List.mem_append_right _ (mem_pinsAt hb e)))).2.1
    cases f with
    | next => obtain ⟨σ7, H7, I7, n7⟩ := q7; exact again I7 n7
    | cont => obtain ⟨σ7, H7, I7, n7⟩ := q7; exact again I7 n7
    | brk => obtain ⟨σ7, H7, I7, q7⟩ := q7; exact ⟨σ7, H7, I7.unpinned, q7⟩
    | ret v => obtain ⟨x7, σ7, H7, I7, r7, q7⟩ := q7; exact ⟨x7, σ7, H7, I7.unpinned, r7, q7⟩
end

theorem for_list {K : PySem.W.Frag} {a : Addr} {xs : List V} {g : TG} {tb : TS} {D : Ends} {σ : St} {H : Hp} (Pv : Nat → St → Hp → Prop) (h0 : Pv 0 σ H) (hl : ∀ i σ H, i ≤ xs.length → Pv i σ H → SqL K H a xs)
    (hs : ∀ i x σ H, xs[i]? = some x → Pv i σ H → g x σ H fun σ2 H2 => tb { D with nx := Pv (i + 1), ct := Pv (i + 1), bk := D.nx } σ2 H2) (hd : ∀ σ H, Pv xs.length σ H → D.nx σ H) :
    ∃ W : Nat → Nat → St → Hp → Prop, (∃ m, W 0 m σ H) ∧ ∀ i m σ H, W i m σ H →
      ((Itl K a).stop i H ∧ D.nx σ H) ∨ ((Itl K a).go i H ∧ ∃ N : St → Hp → Prop, (∀ σ' H', N σ' H' → ∃ m', m' < m ∧ W (i + 1) m' σ' H') ∧ ∀ x H', (Itl K a).yld i H x H' → g x σ H' fun σ2 H2 => tb { D with nx := N, ct := N, bk := D.nx } σ2 H2) := by
  refine ⟨fun i m σ H => m = xs.length - i ∧ i ≤ xs.length ∧ Pv i σ H, ⟨xs.length, by simp, Nat.zero_le _, h0⟩, ?_⟩
  rintro i m σ H ⟨rfl, hi, p⟩
  have q := hl i σ H hi p
  by_cases hlt : i < xs.length
  · refine .inr ⟨⟨xs, xs[i], q, by simp [hlt]⟩, Pv (i + 1), fun σ' H' p' => ⟨xs.length - (i + 1), by omega, rfl, hlt, p'⟩, fun x H' y => ?_⟩
    obtain ⟨e, y⟩ := y
    subst e
    exact hs i x σ _ (y xs q) p
  · have e : i = xs.length := by omega
    subst e
    exact .inl ⟨⟨xs, q, Nat.le_refl _⟩, hd σ H p⟩
theorem for_tup {K : PySem.W.Frag} {a : Addr} {xs : List V} {g : TG} {tb : TS} {D : Ends} {σ : St} {H : Hp} (Pv : Nat → St → Hp → Prop) (h0 : Pv 0 σ H) (hl : ∀ i σ H, i ≤ xs.length → Pv i σ H → SqT K H a xs)
    (hs : ∀ i x σ H, xs[i]? = some x → Pv i σ H → g x σ H fun σ2 H2 => tb { D with nx := Pv (i + 1), ct := Pv (i + 1), bk := D.nx } σ2 H2) (hd : ∀ σ H, Pv xs.length σ H → D.nx σ H) :
    ∃ W : Nat → Nat → St → Hp → Prop, (∃ m, W 0 m σ H) ∧ ∀ i m σ H, W i m σ H →
      ((Itt K a).stop i H ∧ D.nx σ H) ∨ ((Itt K a).go i H ∧ ∃ N : St → Hp → Prop, (∀ σ' H', N σ' H' → ∃ m', m' < m ∧ W (i + 1) m' σ' H') ∧ ∀ x H', (Itt K a).yld i H x H' → g x σ H' fun σ2 H2 => tb { D with nx := N, ct := N, bk := D.nx } σ2 H2) := by
  refine ⟨fun i m σ H => m = xs.length - i ∧ i ≤ xs.length ∧ Pv i σ H, ⟨xs.length, by simp, Nat.zero_le _, h0⟩, ?_⟩
  rintro i m σ H ⟨rfl, hi, p⟩
  have q := hl i σ H hi p
  by_cases hlt : i < xs.length
  · refine .inr ⟨⟨xs, xs[i], q, by simp [hlt]⟩, Pv (i + 1), fun σ' H' p' => ⟨xs.length - (i + 1), by omega, rfl, hlt, p'⟩, fun x H' y => ?_⟩
    obtain ⟨e, y⟩ := y
    subst e
    exact hs i x σ _ (y xs q) p
  · have e : i = xs.length := by omega
    subst e
    exact .inl ⟨⟨xs, q, Nat.le_refl _⟩, hd σ H p⟩
theorem for_range {lo : Int} {n : Nat} {g : TG} {tb : TS} {D : Ends} {σ : St} {H : Hp} (Pv : Nat → St → Hp → Prop) (h0 : Pv 0 σ H)
    (hs : ∀ i σ H, i < n → Pv i σ H → g (.int (lo + i)) σ H fun σ2 H2 => tb { D with nx := Pv (i + 1), ct := Pv (i + 1), bk := D.nx } σ2 H2) (hd : ∀ σ H, Pv n σ H → D.nx σ H) :
    ∃ W : Nat → Nat → St → Hp → Prop, (∃ m, W 0 m σ H) ∧ ∀ i m σ H, W i m σ H →
      ((Itr lo n).stop i H ∧ D.nx σ H) ∨ ((Itr lo n).go i H ∧ ∃ N : St → Hp → Prop, (∀ σ' H', N σ' H' → ∃ m', m' < m ∧ W (i + 1) m' σ' H') ∧ ∀ x H', (Itr lo n).yld i H x H' → g x σ H' fun σ2 H2 => tb { D with nx := N, ct := N, bk := D.nx } σ2 H2) := by
  refine ⟨fun i m σ H => m = n - i ∧ i ≤ n ∧ Pv i σ H, ⟨n, by simp, Nat.zero_le _, h0⟩, ?_⟩
  rintro i m σ H ⟨rfl, hi, p⟩
  by_cases hlt : i < n
  · refine .inr ⟨hlt, Pv (i + 1), fun σ' H' p' => ⟨n - (i + 1), by omega, rfl, hlt, p'⟩, fun x H' y => ?_⟩
    obtain ⟨e, y⟩ := y
    subst e y
    exact hs i σ _ hlt p
  · have e : i = n := by omega
    subst e
    exact .inl ⟨Nat.le_refl _, hd σ H p⟩
end L2

namespace L2
open PySem PySem.Spec PyProof.Rows

abbrev R2 := V → V → Hp → VK → Prop
def OpR (X : Cx) (f : Value → Value → Sem Value) (r : R2) : Prop :=
  ∀ (pins : List (Addr × Obj)) (s : Shared) (σ : St) (H : Hp) (x y : V) (v u : Value) (Q : VK), Inv X pins σ H s → RelV x v → RelV y u → r x y H Q →
    wpAny (model X.prog X.w) X.A (f v u) (EP X pins σ Q) X.xe s
def CallR (X : Cx) (f : Value) (r : List V → Hp → VK → Prop) : Prop :=
  ∀ (pins : List (Addr × Obj)) (s : Shared) (σ : St) (H : Hp) (xs : List V) (us : List Value) (Q : VK), Inv X pins σ H s → Vals xs us → r xs H Q →
    wpAny (model X.prog X.w) X.A (call f us) (EP X pins σ Q) X.xe s
def TruR (X : Cx) (r : V → Hp → (Bool → Hp → Prop) → Prop) : Prop :=
  ∀ (pins : List (Addr × Obj)) (s : Shared) (σ : St) (H : Hp) (x : V) (v : Value) (Q : Bool → Hp → Prop), Inv X pins σ H s → RelV x v → r x H Q →
    wpAny (model X.prog X.w) X.A (truthy v) (TP X pins σ Q) X.xe s

def tOp (r : R2) (ta tb : TE) : TE := fun σ H Q => ta σ H fun x H1 => tb σ H1 fun y H2 => r x y H2 Q
def rI (C : Int → Int → Prop) (g : Int → Int → V) : R2 := fun x y H Q => ∃ i j, x = .int i ∧ y = .int j ∧ C i j ∧ Q (g i j) H
def rI0 (g : Int → Int → V) : R2 := fun x y H Q => ∃ i j, x = .int i ∧ y = .int j ∧ Q (g i j) H

section
variable {X : Cx} {a b c : Expr} {ta tb tc : TE} {pos : Pos}

theorem binT (ha : PE X a ta) (hb : PE X b tb) {pins : List (Addr × Obj)} {s : Shared} {σ : St} {H : Hp} {R : V → V → Hp → Prop} (I : Inv X pins σ H s)
    (h : ta σ H fun x H1 => tb σ H1 fun y H2 => R x y H2) {Q : Value → Shared → Prop} {f : Value → Value → Sem Value}
    (hf : ∀ v u s2 x y H2, Inv X pins σ H2 s2 → RelV x v → RelV y u → R x y H2 → wpAny (model X.prog X.w) X.A (f v u) Q X.xe s2) :
    wpAny (model X.prog X.w) X.A (eval a X.env) (fun v s₁ => wpAny (model X.prog X.w) X.A (eval b X.env) (fun u s₂ => wpAny (model X.prog X.w) X.A (f v u) Q X.xe s₂) X.xe s₁) X.xe s := by
  refine thn (ha pins s σ H _ I h) fun v s1 ⟨x, H1, I1, r1, q1⟩ => ?_
  refine thn (hb pins s1 σ H1 _ I1 q1) fun u s2 ⟨y, H2, I2, r2, q2⟩ => ?_
  exact hf v u s2 x y H2 I2 r1 r2 q2

theorem pe_op {op : Operator} {r : R2} (ho : OpR X (binaryOp op) r) (ha : PE X a ta) (hb : PE X b tb) : PE X (.BinOp a op b pos) (tOp r ta tb) := by
  intro pins s σ H Q I h
  exact wpAny_BinOp (binT ha hb I h fun v u s2 x y H2 I2 rx ry q => ho pins s2 σ H2 x y v u Q I2 rx ry q)

theorem opI {f : Value → Value → Sem Value} {C : Int → Int → Prop} {g : Int → Int → Int}
    (rule : ∀ (i j : Int) (t u : Tok) (s : Shared) (Q : Value → Shared → Prop) (E : Value → Shared → Prop), C i j → Q (.int (g i j) s.toks) { s with toks := s.toks + 1 } → wpAny (model X.prog X.w) X.A (f (.int i t) (.int j u)) Q E s) :
    OpR X f (rI C fun i j => .int (g i j)) := by
  intro pins s σ H x y v u Q I rx ry h
  obtain ⟨i, j, rfl, rfl, hc, q⟩ := h
  obtain ⟨t, rfl⟩ := rx
  obtain ⟨t', rfl⟩ := ry
  exact rule i j t t' s _ _ hc ⟨.int (g i j), H, I.tok _, ⟨_, rfl⟩, q⟩
theorem opI0 {f : Value → Value → Sem Value} {g : Int → Int → Int}
    (rule : ∀ (i j : Int) (t u : Tok) (s : Shared) (Q : Value → Shared → Prop) (E : Value → Shared → Prop), Q (.int (g i j) s.toks) { s with toks := s.toks + 1 } → wpAny (model X.prog X.w) X.A (f (.int i t) (.int j u)) Q E s) :
    OpR X f (rI0 fun i j => .int (g i j)) := by
  intro pins s σ H x y v u Q I rx ry h
  obtain ⟨i, j, rfl, rfl, q⟩ := h
  obtain ⟨t, rfl⟩ := rx
  obtain ⟨t', rfl⟩ := ry
  exact rule i j t t' s _ _ ⟨.int (g i j), H, I.tok _, ⟨_, rfl⟩, q⟩
theorem opB0 {f : Value → Value → Sem Value} {g : Int → Int → Bool}
    (rule : ∀ (i j : Int) (t u : Tok) (s : Shared) (Q : Value → Shared → Prop) (E : Value → Shared → Prop), Q (.bool (g i j)) s → wpAny (model X.prog X.w) X.A (f (.int i t) (.int j u)) Q E s) :
    OpR X f (rI0 fun i j => .bl (g i j)) := by
  intro pins s σ H x y v u Q I rx ry h
  obtain ⟨i, j, rfl, rfl, q⟩ := h
  obtain ⟨t, rfl⟩ := rx
  obtain ⟨t', rfl⟩ := ry
  exact rule i j t t' s _ _ ⟨.bl (g i j), H, I, rfl, q⟩

def CPow (i j : Int) : Prop := 0 ≤ j ∧ j ≤ 1000000 ∧ i.natAbs < 2 ^ 64
def CMul (i j : Int) : Prop := (-(2 ^ 64) < i ∧ i < 2 ^ 64) ∨ (-(2 ^ 64) < j ∧ j < 2 ^ 64)
theorem CMul.ok {i j : Int} (h : CMul i j) : IntMulOk i j := by
  rcases h with ⟨h1, h2⟩ | ⟨h1, h2⟩
  · exact .of_left (intBits_le_64 h1 h2)
  · exact .of_right (intBits_le_64 h1 h2)

theorem op_add : OpR X (binaryOp .Add) (rI0 fun i j => .int (i + j)) := opI0 fun _ _ _ _ _ _ _ q => add_int q
theorem op_sub : OpR X (binaryOp .Sub) (rI0 fun i j => .int (i - j)) := opI0 fun _ _ _ _ _ _ _ q => sub_int q
theorem op_mod : OpR X (binaryOp .Mod) (rI (fun _ j => 0 < j) fun i j => .int (i % j)) := opI fun i j _ _ _ _ _ hc q => by
  have h1 : (0 : Int) < j := hc
  exact mod_int' (by omega) (by rw [Int.fmod_eq_emod_of_nonneg i (by omega)]; exact q)
theorem op_pow : OpR X (binaryOp .Pow) (rI CPow fun i j => .int (i ^ j.toNat)) := opI fun _ _ _ _ _ _ _ hc q => pow_int_small hc.1 hc.2.1 hc.2.2 q



end

def scal : V → V → Bool
  | .non, .non => true | .non, .int _ => true | .int _, .non => true | .non, .bl _ => true | .bl _, .non => true | .non, .str _ => true | .str _, .non => true
  | .int _, .int _ => true | .bl _, .bl _ => true | .str _, .str _ => true | .byt _, .byt _ => true
  | .int _, .str _ => true | .str _, .int _ => true | .bl _, .str _ => true | .str _, .bl _ => true
  | _, _ => false
def rEq : R2 := fun x y H Q => scal x y = true ∧ Q (.bl (decide (x = y))) H
def rNe : R2 := fun x y H Q => scal x y = true ∧ Q (.bl (!decide (x = y))) H

theorem dec_int {i j : Int} : decide (V.int i = V.int j) = (i == j) := by
  rw [Bool.eq_iff_iff]
  simp
theorem dec_bl {i j : Bool} : decide (V.bl i = V.bl j) = (i == j) := by
  rw [Bool.eq_iff_iff]
  simp
theorem dec_str {i j : Str} : decide (V.str i = V.str j) = (i == j) := by
  rw [Bool.eq_iff_iff]
  simp
theorem dec_byt {i j : Array UInt8} : decide (V.byt i = V.byt j) = (i.toList == j.toList) := by
  rw [Bool.eq_iff_iff]
  cases i
  cases j
  simp

section
variable {X : Cx} {a b c : Expr} {ta tb tc : TE} {pos : Pos}
theorem fin_bl {pins : List (Addr × Obj)} {σ : St} {H : Hp} {s : Shared} {Q : VK} {k k' : Bool} (I : Inv X pins σ H s) (q : Q (.bl k) H) (e : k = k') : EP X pins σ Q (.bool k') s := by
  subst e
  exact ⟨.bl k, H, I, rfl, q⟩
theorem op_eq : OpR X (compareOp .Eq) rEq := by
  intro pins s σ H x y v u Q I rx ry h
  obtain ⟨hs, q⟩ := h
  cases x with
  | non =>
    cases rx
    cases y with
    | non => cases ry; exact PySem.EqNone.eq_none_none (fin_bl I q (by simp))
    | bl j => cases ry; exact PySem.EqNone.eq_none_bool (fin_bl I q (by simp))
    | int j => obtain ⟨t', rfl⟩ := ry; exact PySem.EqNone.eq_none_int (fin_bl I q (by simp))
    | str j => obtain ⟨t', rfl⟩ := ry; exact PySem.EqNone.eq_none_str (fin_bl I q (by simp))
    | _ => exact absurd (show false = true from hs) Bool.false_ne_true
  | bl i =>
    cases rx
    cases y with
    | non => cases ry; exact PySem.EqNone.eq_bool_none (fin_bl I q (by simp))
    | bl j => cases ry; exact eq_bool (fin_bl I q dec_bl)
    | str j => obtain ⟨t', rfl⟩ := ry; exact PySem.EqMixed.eq_bool_str (fin_bl I q (by simp))
    | _ => exact absurd (show false = true from hs) Bool.false_ne_true
  | int i =>
    obtain ⟨t, rfl⟩ := rx
    cases y with
    | non => cases ry; exact PySem.EqNone.eq_int_none (fin_bl I q (by simp))
    | int j => obtain ⟨t', rfl⟩ := ry; exact eq_int (fin_bl I q dec_int)
    | str j => obtain ⟨t', rfl⟩ := ry; exact PySem.EqMixed.eq_int_str (fin_bl I q (by simp))
    | _ => exact absurd (show false = true from hs) Bool.false_ne_true
  | str i =>
    obtain ⟨t, rfl⟩ := rx
    cases y with
    | non => cases ry; exact PySem.EqNone.eq_str_none (fin_bl I q (by simp))
    | bl j => cases ry; exact PySem.EqMixed.eq_str_bool (fin_bl I q (by simp))
    | int j => obtain ⟨t', rfl⟩ := ry; exact PySem.EqMixed.eq_str_int (fin_bl I q (by simp))
    | str j => obtain ⟨t', rfl⟩ := ry; exact eq_str (fin_bl I q dec_str)
    | _ => exact absurd (show false = true from hs) Bool.false_ne_true
  | byt i =>
    obtain ⟨t, rfl⟩ := rx
    cases y with
    | byt j => obtain ⟨t', rfl⟩ := ry; exact PySem.W.eq_bytes (fin_bl I q dec_byt)
    | _ => exact absurd (show false = true from hs) Bool.false_ne_true
  | _ => cases y <;> exact absurd (show false = true from hs) Bool.false_ne_true
theorem op_ne : OpR X (compareOp .NotEq) rNe := by
  intro pins s σ H x y v u Q I rx ry h
  obtain ⟨hs, q⟩ := h
  cases x with
  | non =>
    cases rx
    cases y with
    | non => cases ry; exact PySem.EqNone.ne_none_none (fin_bl I q (by simp))
    | bl j => cases ry; exact PySem.EqNone.ne_none_bool (fin_bl I q (by simp))
    | int j => obtain ⟨t', rfl⟩ := ry; exact PySem.EqNone.ne_none_int (fin_bl I q (by simp))
    | str j => obtain ⟨t', rfl⟩ := ry; exact PySem.EqNone.ne_none_str (fin_bl I q (by simp))
    | _ => exact absurd (show false = true from hs) Bool.false_ne_true
  | bl i =>
    cases rx
    cases y with
    | non => cases ry; exact PySem.EqNone.ne_bool_none (fin_bl I q (by simp))
    | bl j => cases ry; exact ne_bool (fin_bl I q (congrArg not dec_bl))
    | str j => obtain ⟨t', rfl⟩ := ry; exact PySem.EqMixed.ne_bool_str (fin_bl I q (by simp))
    | _ => exact absurd (show false = true from hs) Bool.false_ne_true
  | int i =>
    obtain ⟨t, rfl⟩ := rx
    cases y with
    | non => cases ry; exact PySem.EqNone.ne_int_none (fin_bl I q (by simp))
    | int j => obtain ⟨t', rfl⟩ := ry; exact ne_int (fin_bl I q (congrArg not dec_int))
    | str j => obtain ⟨t', rfl⟩ := ry; exact PySem.EqMixed.ne_int_str (fin_bl I q (by simp))
    | _ => exact absurd (show false = true from hs) Bool.false_ne_true
  | str i =>
    obtain ⟨t, rfl⟩ := rx
    cases y with
    | non => cases ry; exact PySem.EqNone.ne_str_none (fin_bl I q (by simp))
    | bl j => cases ry; exact PySem.EqMixed.ne_str_bool (fin_bl I q (by simp))
    | int j => obtain ⟨t', rfl⟩ := ry; exact PySem.EqMixed.ne_str_int (fin_bl I q (by simp))
    | str j => obtain ⟨t', rfl⟩ := ry; exact ne_str (fin_bl I q (congrArg not dec_str))
    | _ => exact absurd (show false = true from hs) Bool.false_ne_true
  | byt i =>
    obtain ⟨t, rfl⟩ := rx
    cases y with
    | byt j => obtain ⟨t', rfl⟩ := ry; exact PySem.W.ne_bytes (fin_bl I q (congrArg not dec_byt))
    | _ => exact absurd (show false = true from hs) Bool.false_ne_true
  | _ => cases y <;> exact absurd (show false = true from hs) Bool.false_ne_true

theorem op_lt : OpR X (compareOp .Lt) (rI0 fun i j => .bl (decide (i < j))) := opB0 fun _ _ _ _ _ _ _ q => lt_int q
theorem op_le : OpR X (compareOp .LtE) (rI0 fun i j => .bl (decide (i ≤ j))) := opB0 fun _ _ _ _ _ _ _ q => le_int q
theorem op_gt : OpR X (compareOp .Gt) (rI0 fun i j => .bl (decide (j < i))) := opB0 fun _ _ _ _ _ _ _ q => gt_int q




theorem nomark (b : Expr) {op : CmpOp} (h : op ≠ .In := by decide) (h2 : op ≠ .NotIn := by decide) : behindInMarks op b = false := by
  have e1 : (op == CmpOp.In) = false := by cases op <;> first | rfl | exact absurd rfl h
  have e2 : (op == CmpOp.NotIn) = false := by cases op <;> first | rfl | exact absurd rfl h2
  cases b <;> simp [behindInMarks, e1, e2]
theorem pe_cmpR {op : CmpOp} {r : R2} (ho : OpR X (compareOp op) r) (ha : PE X a ta) (hb : PE X b tb) (hm : behindInMarks op b = false) : PE X (.Compare a [op] [b] pos) (tOp r ta tb) := by
  intro pins s σ H Q I h
  exact wpAny_Compare1 (binT ha hb I h fun v u s2 x y H2 I2 rx ry q => ho pins s2 σ H2 x y v u Q I2 rx ry q) hm
def tTest (t : TE) : TT := fun σ H Q => t σ H fun x H' => ∃ k, x = .bl k ∧ Q k H'
theorem pt_cmpR {op : CmpOp} {r : R2} (ho : OpR X (compareOp op) r) (ha : PE X a ta) (hb : PE X b tb) (hm : behindInMarks op b = false) : PT X (.Compare a [op] [b] pos) (tTest (tOp r ta tb)) := by
  intro pins s σ H Q I h
  refine wpAny_isTrue_Compare1 (thn (ha pins s σ H _ I h) fun v s1 ⟨x, H1, I1, r1, q1⟩ => thn (hb pins s1 σ H1 _ I1 q1) fun u s2 ⟨y, H2, I2, r2, q2⟩ =>
    thn (ho pins s2 σ H2 x y v u _ I2 r1 r2 q2) fun c s3 ⟨z, H3, I3, r3, k, e, q3⟩ => ?_) hm
  subst e
  cases r3
  exact wpAny_truthy_bool ⟨H3, I3, q3⟩
def tChain (r r' : R2) (ta tb tc : TE) : TE := fun σ H Q => ta σ H fun x H1 => tb σ H1 fun y H2 => r x y H2 fun z H3 => ∃ k, z = .bl k ∧
  (if k = true then tc σ H3 fun w' H4 => r' y w' H4 Q else Q (.bl false) H3)
theorem pe_chain {op op' : CmpOp} {r r' : R2} (ho : OpR X (compareOp op) r) (ho' : OpR X (compareOp op') r') (ha : PE X a ta) (hb : PE X b tb) (hc : PE X c tc)
    (hm : lastMarks [op, op'] [b, c] = false := by with_unfolding_all rfl) : PE X (.Compare a [op, op'] [b, c] pos) (tChain r r' ta tb tc) := by
  intro pins s σ H Q I h
  refine Compare_chain (thn (ha pins s σ H _ I h) fun v s1 ⟨x, H1, I1, r1, q1⟩ => chain_link (thn (hb pins s1 σ H1 _ I1 q1) fun u s2 ⟨y, H2, I2, r2, q2⟩ =>
    thn (ho pins s2 σ H2 x y v u _ I2 r1 r2 q2) fun d s3 ⟨z, H3, I3, r3, k, e, q3⟩ => ?_)) hm
  subst e
  cases r3
  refine wpAny_truthy_bool ?_
  cases k with
  | false => exact ite_ff ⟨.bl false, H3, I3, rfl, q3⟩
  | true => exact ite_tt (chain_last (thn (hc pins s3 σ H3 _ I3 q3) fun w' s4 ⟨z', H4, I4, r4, q4⟩ => ho' pins s4 σ H4 y z' u w' Q I4 r2 r4 q4))
theorem pt_chain {op op' : CmpOp} {r r' : R2} (ho : OpR X (compareOp op) r) (ho' : OpR X (compareOp op') r') (ha : PE X a ta) (hb : PE X b tb) (hc : PE X c tc)
    (hm : lastMarks [op, op'] [b, c] = false := by with_unfolding_all rfl) : PT X (.Compare a [op, op'] [b, c] pos) (tTest (tChain r r' ta tb tc)) := by
  intro pins s σ H Q I h
  refine isTrue_chain (thn (ha pins s σ H _ I h) fun v s1 ⟨x, H1, I1, r1, q1⟩ => test_link (thn (hb pins s1 σ H1 _ I1 q1) fun u s2 ⟨y, H2, I2, r2, q2⟩ =>
    thn (ho pins s2 σ H2 x y v u _ I2 r1 r2 q2) fun d s3 ⟨z, H3, I3, r3, k, e, q3⟩ => ?_)) hm
  subst e
  cases r3
  refine wpAny_truthy_bool ?_
  cases k with
  | false =>
    obtain ⟨k', e', q'⟩ := q3
    cases e'
    exact ite_ff ⟨H3, I3, q'⟩
  | true =>
    refine ite_tt (test_last (thn (hc pins s3 σ H3 _ I3 q3) fun w' s4 ⟨z', H4, I4, r4, q4⟩ => thn (ho' pins s4 σ H4 y z' u w' _ I4 r2 r4 q4) fun d' s5 ⟨z2, H5, I5, r5, k2, e2, q5⟩ => ?_))
    subst e2
    cases r5
    exact wpAny_truthy_bool ⟨H5, I5, q5⟩

def TruV (K : PySem.W.Frag) (x : V) (H : Hp) (k : Bool) : Prop :=
  match x with
  | .non => k = false
  | .bl b => k = b
  | .int i => k = (i != 0)
  | .str y => y.length ≤ sizeLine ∧ k = ((y.length : Int) != 0)
  | .byt y => y.size ≤ sizeLine ∧ k = ((y.size : Int) != 0)
  | .ref p => (∃ xs, SqL K H p xs ∧ k = !xs.isEmpty) ∨ (∃ xs, SqT K H p xs ∧ k = !xs.isEmpty) ∨ ∃ kvs, H p = some (.dK kvs) ∧ k = !kvs.isEmpty
  | _ => False
theorem isEmpty_kv {κ : Type} {kvs : List (κ × V)} {vs : List (κ × Value)} (r : KV kvs vs) : (!vs.isEmpty) = !kvs.isEmpty := by
  cases r <;> rfl
theorem isEmpty_of {xs : List V} {its : List Value} (r : Vals xs its) : (!its.toArray.isEmpty) = !xs.isEmpty := by
  cases r <;> simp
theorem line63 : (sizeLine : Nat) < 2 ^ 63 := by rw [sizeLine_eq]; decide
theorem tru_ok : TruR X (fun x H Q => ∃ k, TruV X.K x H k ∧ Q k H) := by
  intro pins s σ H x v Q I rx h
  obtain ⟨k, e, q⟩ := h
  have hl := line63
  have hs : sizeLine = 16777216 := sizeLine_eq
  cases x with
  | non =>
    cases rx
    have e' : k = false := e
    subst e'
    exact truthy_none ⟨H, I, q⟩
  | bl b =>
    cases rx
    have e' : k = b := e
    subst e'
    exact wpAny_truthy_bool ⟨H, I, q⟩
  | int i =>
    obtain ⟨t, rfl⟩ := rx
    have e' : k = (i != 0) := e
    subst e'
    exact PySem.P.truthy_int ⟨H, I, q⟩
  | str y =>
    obtain ⟨t, rfl⟩ := rx
    obtain ⟨hy, e'⟩ : y.length ≤ sizeLine ∧ k = ((y.length : Int) != 0) := e
    subst e'
    exact PySem.P.truthy_str (by omega) ⟨H, I.tok _, q⟩
  | byt y =>
    obtain ⟨t, rfl⟩ := rx
    obtain ⟨hy, e'⟩ : y.size ≤ sizeLine ∧ k = ((y.size : Int) != 0) := e
    subst e'
    exact PySem.W.truthy_bytes (by omega) ⟨H, I.tok _, q⟩
  | ref p =>
    cases rx
    have e' : (∃ xs, SqL X.K H p xs ∧ k = !xs.isEmpty) ∨ (∃ xs, SqT X.K H p xs ∧ k = !xs.isEmpty) ∨ ∃ kvs, H p = some (.dK kvs) ∧ k = !kvs.isEmpty := e
    rcases e' with ⟨xs, hx, e'⟩ | ⟨xs, hx, e'⟩ | ⟨kvs, hx, e'⟩
    · subst e'
      obtain ⟨its, r, pl, hz⟩ := I.list hx
      have hlen := r.length
      exact wpAny_truthy_list pl.isList (by simp only [List.size_toArray]; omega) ⟨H, I.tok _, by rw [isEmpty_of r]; exact q⟩
    · subst e'
      obtain ⟨its, r, pl, hz⟩ := I.tuple hx
      have hlen := r.length
      exact truthy_tuple pl (by simp only [List.size_toArray]; omega) ⟨H, I.tok _, by rw [isEmpty_of r]; exact q⟩
    · subst e'
      obtain ⟨hz, hS, vs, r, m⟩ : kvs.length ≤ sizeLine ∧ (p == sysModules) = false ∧ ∃ vs, KV kvs vs ∧ s.heap.DictOf (mixKind X.prog X.w) p vs := I.hok p _ hx
      have hlen : kvs.length = vs.length := Paired.length r
      exact wpAny_truthy_dict hS m (by omega) ⟨H, I.tok _, by rw [isEmpty_kv r]; exact q⟩
  | _ => exact (show False from e).elim
theorem pt_truth (ha : PE X a ta) (he : ∀ whole, isTrue a X.env whole = (do let v ← whole; standAt a.pos; holding [v] (truthy v))) :
    PT X a (fun σ H Q => ta σ H fun x H' => ∃ k, TruV X.K x H' k ∧ Q k H') := by
  intro pins s σ H Q I h
  exact isTrue_plain (thn (ha pins s σ H _ I h) fun v s1 ⟨x, H1, I1, r1, q1⟩ => tru_ok pins s1 σ H1 x v Q I1 r1 q1) (he _)



theorem vals1 {x : V} {us : List Value} (r : Vals [x] us) : ∃ u, us = [u] ∧ RelV x u := by
  cases r with
  | cons r1 r2 => cases r2; exact ⟨_, rfl, r1⟩
theorem vals2 {x y : V} {us : List Value} (r : Vals [x, y] us) : ∃ u w', us = [u, w'] ∧ RelV x u ∧ RelV y w' := by
  cases r with
  | cons r1 r2 =>
    cases r2 with
    | cons r3 r4 => cases r4; exact ⟨_, _, rfl, r1, r3⟩
theorem call_abs : CallR X (.builtin "abs") (fun xs H Q => ∃ i, xs = [.int i] ∧ Q (.int (if i < 0 then -i else i)) H) := by
  intro pins s σ H xs us Q I r h
  obtain ⟨i, rfl, q⟩ := h
  obtain ⟨u, rfl, t, rfl⟩ := vals1 r
  exact call_abs_int fun u tk => ⟨.int (if i < 0 then -i else i), H, I.tok _, ⟨_, rfl⟩, q⟩
theorem call_max2 (hc : X.calm = true) : CallR X (.builtin "max") (fun xs H Q => ∃ i j, xs = [.int i, .int j] ∧ Q (.int (if j > i then j else i)) H) := by
  intro pins s σ H xs us Q I r h
  obtain ⟨i, j, rfl, q⟩ := h
  obtain ⟨u, w', rfl, ⟨t, rfl⟩, ⟨t', rfl⟩⟩ := vals2 r
  refine max_two_ints (I.ok.hd hc) fun h' tk k => ⟨_, H, I.kept k, ?_, q⟩
  by_cases hj : j > i
  · rw [if_pos hj, if_pos hj]; exact ⟨_, rfl⟩
  · rw [if_neg hj, if_neg hj]; exact ⟨_, rfl⟩
theorem call_min2 (hc : X.calm = true) : CallR X (.builtin "min") (fun xs H Q => ∃ i j, xs = [.int i, .int j] ∧ Q (.int (if j < i then j else i)) H) := by
  intro pins s σ H xs us Q I r h
  obtain ⟨i, j, rfl, q⟩ := h
  obtain ⟨u, w', rfl, ⟨t, rfl⟩, ⟨t', rfl⟩⟩ := vals2 r
  refine min_two_ints (I.ok.hd hc) fun h' tk k => ⟨_, H, I.kept k, ?_, q⟩
  by_cases hj : j < i
  · rw [if_pos hj, if_pos hj]; exact ⟨_, rfl⟩
  · rw [if_neg hj, if_neg hj]; exact ⟨_, rfl⟩
end
end L2

namespace L2
open PySem PySem.Spec PyProof.Rows

structure ObjM (h : Heap) (x dx C : Addr) (mA : Str → Option Value) : Prop where
  obj : h.get? x = some (PySem.W.instObj C dx)
  ns : h.Ns1 dx mA
  ne : dx ≠ x

theorem lookIn_ns {h : Heap} {dx : Addr} {mA : Str → Option Value} (n : h.Ns1 dx mA) : ∃ od, h.get? dx = some od ∧ ∀ name, PySem.W.lookIn name od = some (mA name) := by
  obtain ⟨o, es, ep, ho, hd, hk, _, hm⟩ := n
  refine ⟨o, ho, fun name => ?_⟩
  have e := hm name
  unfold nsFind findBy at e
  rw [← Array.find?_toList] at e
  unfold PySem.W.lookIn
  rw [hd]
  dsimp only
  split
  · rename_i y q
    rw [q] at e
    exact congrArg some e
  · rename_i q
    rw [q] at e
    have a : es.toList.any (·.refKey) = false := by
      rw [List.any_eq_false]
      intro y hy
      obtain ⟨z, t, hkey⟩ := hk y (Array.mem_toList_iff.mp hy)
      simp [DictEntry.refKey, hkey]
    have a' : ¬ es.toList.any (·.refKey) = true := by rw [a]; exact Bool.false_ne_true
    rw [if_neg a']
    exact congrArg some e

theorem ObjM.look {h : Heap} {x dx C : Addr} {mA : Str → Option Value} (I : ObjM h x dx C mA) : ∃ od, PySem.W.InstAt h x (PySem.W.instObj C dx) C (some od) ∧ ∀ name, PySem.W.lookIn name od = some (mA name) :=
  let ⟨od, ho, hl⟩ := lookIn_ns I.ns
  ⟨od, ⟨I.obj, rfl, rfl, ho⟩, hl⟩

section
variable {prog : Program} {w : World} {A : Around} {E : Value → Shared → Prop} {s : Shared} {K : PySem.W.Frag} {x dx C f : Addr} {mA : Str → Option Value} {name : Str} {v : Value}





end


theorem RelO.some_of {v : V} {o : Option Value} (r : RelO (some v) o) : ∃ u, o = some u ∧ RelV v u := by
  cases o with
  | none => exact (show False from r).elim
  | some u => exact ⟨u, rfl, r⟩

section
variable {P : Program} {w : World} {H H' : Hp} {h h' : Heap} {a C dx : Addr} {fs fs' : List (Str × V)}
theorem ins_get (hok : HOk P w H h) (e : H a = some (.ins C dx fs)) : ∃ mA, ObjM h a dx C mA ∧ (∀ f, RelO (fs.lookup f) (mA f)) ∧ PySem.Within mA (fs.map (·.1)) ∧ fs.length ≤ 1000 ∧ H dx = some (.own a) := by
  obtain ⟨d, z, ne, ob, mA, n, r, q⟩ := (show ObjOk P w H h a (.ins C dx fs) from hok a _ e)
  exact ⟨mA, ⟨ob, n, ne⟩, r, q, z, d⟩
end

structure Cls (K : PySem.W.Frag) (C : Addr) : Prop where
  pg : PySem.W.plainGet K C Str.empty = true
  hd : PySem.W.hasDictIn K C = true
  po : PySem.W.plainOver K C = true
  sa : PySem.W.findIn K (.ref C) "__setattr__" = some (some (.builtin "object.__setattr__"))
theorem Cls.get {K : PySem.W.Frag} {C : Addr} (c : Cls K C) (f : Str) : PySem.W.plainGet K C f = true := c.pg
def NoAttr (K : PySem.W.Frag) (C : Addr) (f : Str) : Prop := PySem.W.findIn K (.ref C) f = some none
structure Con (K : PySem.W.Frag) (C : Addr) (f : Str) (v : V) (u : Value) : Prop where
  at_ : PySem.W.findIn K (.ref C) f = some (some u)
  rel : RelV v u
  get : PySem.W.specialIn K u "__get__" = some none
  cp : PySem.W.copiedNames.contains f = false
structure Meth (K : PySem.W.Frag) (C : Addr) (m : Str) (f : Addr) : Prop where
  at_ : PySem.W.findIn K (.ref C) m = some (some (.ref f))
  fn : PySem.W.isFn K (.ref f) = true
  kp : PySem.W.keepIn K (.ref f) = true

section
variable {X : Cx} {pins : List (Addr × Obj)} {σ : St} {H : Hp} {s : Shared} {a C dx : Addr} {fs : List (Str × V)} {f : Str} {v : V} {A : Around} {E : Value → Shared → Prop}





theorem Inv.made (I : Inv X pins σ H s) : Inv X pins σ (upd (upd H s.heap.objs.size (.own (s.heap.objs.size + 1))) (s.heap.objs.size + 1) (.ins C s.heap.objs.size []))
    { s with heap := (s.heap.push PySem.W.emptyDict).push (PySem.W.instObj C s.heap.objs.size) } := by
  have e1 : (s.heap.push PySem.W.emptyDict).get? s.heap.objs.size = some PySem.W.emptyDict := Heap.get?_push_size s.heap rfl
  have e2 : ((s.heap.push PySem.W.emptyDict).push (PySem.W.instObj C s.heap.objs.size)).get? (s.heap.objs.size + 1) = some (PySem.W.instObj C s.heap.objs.size) := by
    have := Heap.get?_push_size (s.heap.push PySem.W.emptyDict) (o := PySem.W.instObj C s.heap.objs.size) rfl
    rwa [Heap.size_push] at this
  have e3 : (s.heap.push PySem.W.emptyDict).Ns s.heap.objs.size (fun _ => none) := ⟨PySem.W.emptyDict, #[], _, e1, rfl, (fun e he => absurd he (by simp)), fun _ => rfl⟩
  have I1 := I.laid (a := s.heap.objs.size) (o := .own (s.heap.objs.size + 1)) (h' := s.heap.push PySem.W.emptyDict) (t' := s.toks) (fun b u q => Heap.get?_push_of_some _ q) (Nat.le_refl _) ⟨_, e1⟩
  refine I1.laid (a := s.heap.objs.size + 1) (o := .ins C s.heap.objs.size []) (t' := s.toks) (fun b u q => Heap.get?_push_of_some _ q) (Nat.le_of_eq (Heap.size_push _ _)) ?_
  have ne : s.heap.objs.size ≠ s.heap.objs.size + 1 := Nat.ne_of_lt (Nat.lt_succ_self _)
  refine ⟨by rw [upd_ne ne, upd_same], Nat.zero_le _, ne, e2, fun _ => none, (Heap.Ns1.of_empty e3).at fun o q => Heap.get?_push_of_some _ q, fun _ => True.intro, fun y hy => absurd rfl hy⟩

end


section
variable {X : Cx} {o e value : Expr} {f : Str} {pos pos' tpos : Pos} {ta tv : TE}

end

section
variable {X : Cx} {pins : List (Addr × Obj)} {σ : St} {H : Hp} {s : Shared} {A : Around} {E : Value → Shared → Prop} {Q : Value → Shared → Prop} {c : Value} {b : Bool}
inductive TyOf (K : PySem.W.Frag) (H : Hp) : V → Value → Prop where
  | non : TyOf K H .non (.type "NoneType")
  | bl (x : Bool) : TyOf K H (.bl x) (.type "bool")
  | int (i : Int) : TyOf K H (.int i) (.type "int")
  | str (x : Str) : TyOf K H (.str x) (.type "str")
  | flt (x : UInt64) : TyOf K H (.flt x) (.type "float")
  | lst {a : Addr} {xs : List V} (e : H a = some (.lst xs)) : TyOf K H (.ref a) (.type "list")
  | frz {a : Addr} {o : Obj} {xs : List V} (e : H a = some (.frz o (.lst xs))) : TyOf K H (.ref a) (.type "list")
  | tup {a : Addr} {xs : List V} (e : H a = some (.tup xs)) : TyOf K H (.ref a) (.type "tuple")
  | dK {a : Addr} {kvs : List (Key × V)} (e : H a = some (.dK kvs)) : TyOf K H (.ref a) (.type "dict")
  | dT {a : Addr} {kvs : List (List Key × V)} (e : H a = some (.dT kvs)) : TyOf K H (.ref a) (.type "dict")
  | ins {a C dx : Addr} {fs : List (Str × V)} (e : H a = some (.ins C dx fs)) (cl : Cls K C) (ha : PySem.W.findIn K (.ref C) "__class__" = some (some (.builtin "object.__class__")))
      (hn : PySem.W.specialIn K (.builtin "object.__class__") "__get__" = some (some (.builtin "getset_descriptor.__get__"))) (htk : PySem.W.takesIn K (.builtin "object.__class__") = some true)
      (hm : PySem.W.mroIn K C (.type "object") = some true) : TyOf K H (.ref a) (.ref C)
theorem isinst_ok {x : V} {u t : Value} (I : Inv X pins σ H s) (rx : RelV x u) (ty : TyOf X.K H x t) (e : PySem.W.kitOne X.K t c = some b) (h : ∀ tk, Q (.bool b) { s with toks := tk }) :
    wpAny (model X.prog X.w) A (call (.builtin "isinstance") [u, c]) Q E s := by
  cases ty with
  | non => cases (show u = Value.none from rx); exact PySem.W.kia_one PySem.W.kitx_none I.kIn True.intro e (fun z => nomatch z) h
  | bl y => cases (show u = Value.bool y from rx); exact PySem.W.kia_one PySem.W.kitx_bool I.kIn True.intro e (fun z => nomatch z) h
  | int i => obtain ⟨t, q⟩ := (show ∃ t, u = Value.int i t from rx); cases q; exact PySem.W.kia_one PySem.W.kitx_int I.kIn True.intro e (fun z => nomatch z) h
  | str y => obtain ⟨t, q⟩ := (show ∃ t, u = Value.str y t from rx); cases q; exact PySem.W.kia_one PySem.W.kitx_str I.kIn True.intro e (fun z => nomatch z) h
  | flt y => obtain ⟨t, q⟩ := (show ∃ t, u = Value.float y t from rx); cases q; exact PySem.W.kia_one PySem.W.kitx_float I.kIn True.intro e (fun z => nomatch z) h
  | @lst a xs ea =>
    cases (show u = Value.ref a from rx)
    obtain ⟨_, _, n, _, h1⟩ := (show ObjOk X.prog X.w H s.heap a (.lst xs) from I.hok a _ ea)
    exact PySem.W.kia_one PySem.W.kitx_list I.kIn ⟨_, h1, rfl⟩ e (fun z => nomatch z) h
  | @frz a ob xs ea =>
    cases (show u = Value.ref a from rx)
    obtain ⟨_, _, _, n, _, h1⟩ := (show ObjOk X.prog X.w H s.heap a (.frz ob (.lst xs)) from I.hok a _ ea)
    exact PySem.W.kia_one PySem.W.kitx_list I.kIn ⟨_, h1, rfl⟩ e (fun z => nomatch z) h
  | @tup a xs ea =>
    cases (show u = Value.ref a from rx)
    obtain ⟨_, _, _, p⟩ := (show ObjOk X.prog X.w H s.heap a (.tup xs) from I.hok a _ ea)
    obtain ⟨o, h1, h2, _⟩ := p
    exact PySem.W.kia_one PySem.W.kitx_tuple I.kIn ⟨o, h1, h2⟩ e (fun z => nomatch z) h
  | @dK a kvs ea =>
    cases (show u = Value.ref a from rx)
    obtain ⟨_, _, vs, _, p⟩ := (show ObjOk X.prog X.w H s.heap a (.dK kvs) from I.hok a _ ea)
    obtain ⟨o, es, ep, h1, h2, _⟩ := p
    exact PySem.W.kia_one PySem.W.kitx_dict I.kIn ⟨o, h1, h2.1⟩ e (fun z => nomatch z) h
  | @dT a kvs ea =>
    cases (show u = Value.ref a from rx)
    obtain ⟨_, _, xs, _, o, es, ep, h1, h2, _⟩ := (show ObjOk X.prog X.w H s.heap a (.dT kvs) from I.hok a _ ea)
    exact PySem.W.kia_one PySem.W.kitx_dict I.kIn ⟨o, h1, h2.1⟩ e (fun z => nomatch z) h
  | @ins a C dx fs ea cl ha hn htk hm =>
    cases (show u = Value.ref a from rx)
    obtain ⟨mA, O, _⟩ := ins_get I.hok ea
    obtain ⟨od, J, _⟩ := O.look
    exact PySem.W.kia_one (PySem.W.kitx_own (cl.get _) cl.hd ha hn htk hm) I.kIn J e (fun z => nomatch z) h
end
end L2

namespace L2
open PySem PySem.Spec PyProof.Rows

structure Room (k : Nat) (A : Around) : Prop where
  hd : A.handled = none
  dp : A.depth + 3 * k + 5 < recursionLimit
  un : A.units + 16 * k + 200 < cLine
  gd : A.guards = some []
theorem Room.mono {j k : Nat} {A : Around} (r : Room k A) (h : j ≤ k) : Room j A := ⟨r.hd, by have := r.dp; omega, by have := r.un; omega, r.gd⟩
theorem Room.deeper {k : Nat} {A : Around} (r : Room (k + 1) A) (env : Env) : Room k (A.deeper env) :=
  ⟨r.hd, by have := r.dp; show A.depth + 1 + 3 * k + 5 < _; omega, by have := r.un; show A.units + 3 + 16 * k + 200 < _; omega, r.gd⟩
theorem Room.in1 {k : Nat} {A : Around} (r : Room (k + 1) A) : Room k A.in1 :=
  ⟨r.hd, by have := r.dp; show A.depth + 3 * k + 5 < _; omega, by have := r.un; show A.units + 1 + 16 * k + 200 < _; omega, r.gd⟩
theorem Room.depth {k : Nat} {A : Around} (r : Room k A) : A.depth < recursionLimit := by have := r.dp; omega
theorem Room.units {k : Nat} {A : Around} (r : Room k A) : A.units + 64 < cLine := by have := r.un; omega
theorem Room.units0 {k : Nat} {A : Around} (r : Room k A) : A.units < cLine := by have := r.un; omega

def tNil : TA := fun _ H Q => Q [] H
def tCons (ta : TE) (tr : TA) : TA := fun σ H Q => ta σ H fun x H1 => tr σ H1 fun xs H2 => Q (x :: xs) H2
section
variable {X : Cx} {e : Expr} {es : List Expr} {te : TE} {t : TA} {pos : Pos}
theorem pa_nil : PA X [] tNil := fun _ _ _ _ H Q I h => Calls.spliced_nil ⟨[], H, I, .nil, h⟩
theorem pa_cons (ha : PE X e te) (hr : PA X es t) (hs : starEach (e :: es) X.env = (false, eval e X.env) :: starEach es X.env := by rfl) : PA X (e :: es) (tCons te t) := by
  intro pos pins s σ H Q I h
  rw [hs]
  show wpAny _ _ (spliced ((false, eval e X.env) :: backTo pos (starEach es X.env))) _ _ s
  refine Calls.spliced_cons (thn (ha pins s σ H _ I h) fun u s1 ⟨x, H1, I1, r1, q1⟩ => ?_)
  exact thn (hr pos pins s1 σ H1 _ I1 q1) fun us s2 ⟨xs, H2, I2, r2, q2⟩ => ⟨x :: xs, H2, I2, .cons r1 r2, q2⟩

def tTup (t : TA) : TE := fun σ H Q => t σ H fun xs H1 => xs.length ≤ sizeLine ∧ ∀ p, H1 p = none → Q (.ref p) (upd H1 p (.tup xs))
def tLst (t : TA) : TE := fun σ H Q => t σ H fun xs H1 => xs.length ≤ sizeLine ∧ ∀ p, H1 p = none → Q (.ref p) (upd H1 p (.lst xs))
theorem pe_tup {x1} (h : PA X es t) : PE X (.Tuple es x1 pos) (tTup t) := by
  intro pins s σ H Q I hq
  refine wpAny_Tuple_spliced (thn (h pos pins s σ H _ I hq) fun us s1 ⟨xs, H1, I1, r, z, q⟩ => ⟨by rw [← r.length]; exact z, ?_⟩)
  have hf : H1 s1.heap.objs.size = none := I1.hok.fresh (Nat.le_refl _)
  refine ⟨.ref s1.heap.objs.size, upd H1 s1.heap.objs.size (.tup xs), I1.laid (t' := s1.toks) (fun b u e => Heap.get?_push_of_some _ e) (Nat.le_refl _) ?_, rfl, q _ hf⟩
  exact ⟨z, us, r, ⟨_, Heap.get?_push_size _ rfl, rfl, _, rfl⟩⟩
theorem pe_lst (h : PA X es t) : PE X (.List es pos) (tLst t) := by
  intro pins s σ H Q I hq
  refine wpAny_List_spliced (thn (h pos pins s σ H _ I hq) fun us s1 ⟨xs, H1, I1, r, z, q⟩ => ⟨by rw [← r.length]; exact z, ?_⟩)
  have hf : H1 s1.heap.objs.size = none := I1.hok.fresh (Nat.le_refl _)
  refine ⟨.ref s1.heap.objs.size, upd H1 s1.heap.objs.size (.lst xs), I1.laid (t' := s1.toks) (fun b u e => Heap.get?_push_of_some _ e) (Nat.le_refl _) ?_, rfl, q _ hf⟩
  exact ⟨z, us, 0, r, Heap.get?_push_size _ rfl⟩
end

abbrev Sp := List V → Hp → VK → XK → Prop
abbrev CXT := List Env → Hp → Shared → XK → Value → Shared → Prop

structure Env0 (P : Program) (w : World) (K : PySem.W.Frag) (mg : Str → Option Value) (base : Heap) (A : Around) (outer : List Env) (s : Shared) (H : Hp) : Prop where
  frames : A.frames = some outer
  mod : Mod K mg base
  bs : ∀ b o, base.get? b = some o → s.heap.get? b = some o ∧ H b = none
  bsz : base.objs.size ≤ s.heap.objs.size
  funs : s.heap.FunFrames base outer
  frf : ∀ b ∈ frs outer, H b = none
  hok : HOk P w H s.heap
  bare : AllBare s.gens
def CE (outer : List Env) (P : Program) (w : World) (H : Hp) (s : Shared) (Q : VK) (u : Value) (s' : Shared) : Prop :=
  ∃ v H', s'.os = s.os ∧ AllBare s'.gens ∧ Un (frs outer) [] H H' s.heap s'.heap ∧ HOk P w H' s'.heap ∧ RelV v u ∧ Q v H'
def CR (CX : CXT) (outer : List Env) (P : Program) (w : World) (H : Hp) (s : Shared) (Q : VK) (E : XK) (r : Result) (s' : Shared) : Prop :=
  match r with
  | .ok (.ret u) => CE outer P w H s Q u s'
  | .ok _ => False
  | .error e => CX outer H s E e s'
structure FnOk (P : Program) (w : World) (K : PySem.W.Frag) (mg : Str → Option Value) (base : Heap) (CX : CXT) (k : Nat) (f : Addr) (fd : FuncData) (ps : List Str) (sp : Sp) : Prop where
  len : ∀ vs H Q E, sp vs H Q E → vs.length = ps.length
  run : ∀ (A : Around) (outer : List Env) (s : Shared) (H : Hp) (args : Args) (us : List Value) (vs : List V) (Q : VK) (E : XK), Room k A → Env0 P w K mg base A outer s H → BindsTo s fd args (ps.zip us) → Vals vs us → sp vs H Q E →
    codeAny (model P w) A (.call (.ref f) args) (CR CX outer P w H s Q E) s
theorem FnOk.mono {P : Program} {w : World} {K : PySem.W.Frag} {mg : Str → Option Value} {base : Heap} {CX : CXT} {j k : Nat} {f : Addr} {fd : FuncData} {ps : List Str} {sp : Sp} (F : FnOk P w K mg base CX j f fd ps sp) (h : j ≤ k) :
    FnOk P w K mg base CX k f fd ps sp := ⟨F.len, fun A outer s H args us vs Q E hr => F.run A outer s H args us vs Q E (hr.mono h)⟩
theorem FnOk.imp {P : Program} {w : World} {K : PySem.W.Frag} {mg : Str → Option Value} {base : Heap} {CX : CXT} {k : Nat} {f : Addr} {fd : FuncData} {ps : List Str} {sp sp' : Sp} (F : FnOk P w K mg base CX k f fd ps sp)
    (h : ∀ vs H Q E, sp' vs H Q E → sp vs H Q E) : FnOk P w K mg base CX k f fd ps sp' :=
  ⟨fun vs H Q E q => F.len vs H Q E (h _ _ _ _ q), fun A outer s H args us vs Q E hr he hb hv hs => F.run A outer s H args us vs Q E hr he hb hv (h _ _ _ _ hs)⟩

theorem Env0.in1 {P : Program} {w : World} {K : PySem.W.Frag} {mg : Str → Option Value} {base : Heap} {A : Around} {outer : List Env} {s : Shared} {H : Hp} (e : Env0 P w K mg base A outer s H) :
    Env0 P w K mg base A.in1 outer s H := ⟨e.frames, e.mod, e.bs, e.bsz, e.funs, e.frf, e.hok, e.bare⟩

section
variable {X : Cx} {pins : List (Addr × Obj)} {σ : St} {H : Hp} {s s' : Shared}
theorem Inv.env0 (I : Inv X pins σ H s) : Env0 X.prog X.w X.K X.mg X.base X.A X.stack s H :=
  ⟨I.ok.frames, I.ok.mod, I.bs, Nat.le_trans I.ok.bsz I.sz, I.stack, I.stkFree, I.hok, I.bare⟩
theorem Inv.after {Q : VK} {u : Value} (I : Inv X pins σ H s) (h : CE X.stack X.prog X.w H s Q u s') : EP X pins σ Q u s' := by
  obtain ⟨v, H', os, bare, un, hok, r, q⟩ := h
  obtain ⟨hh, g, d, t, os'⟩ := s'
  obtain rfl : os' = s.os := os
  exact ⟨v, H', I.call (h' := hh) (g' := g) (d' := d) (t' := t) (ch := []) un hok bare (fun b z => absurd z (by simp)), r, q⟩
end

def tCall (sp : Sp) (dvs : List V) (E : XK) (t : TA) : TE := fun σ H Q => t σ H fun vs H1 => sp (vs ++ dvs) H1 Q E

def Binds (K : PySem.W.Frag) (fd : FuncData) (ps : List Str) (ds : List Value) : Prop :=
  ∀ (s : Shared) (us : List Value), K.In s.heap → (us ++ ds).length = ps.length → BindsTo s fd ⟨us, []⟩ (ps.zip (us ++ ds))
theorem Binds.all {K : PySem.W.Frag} {fd : FuncData} {ps : List Str} (h : ∀ us : List Value, us.length = ps.length → bindArgs fd ⟨us, []⟩ = pure (ps.zip us)) : Binds K fd ps [] := fun s us _ hl => by
  rw [List.append_nil] at hl ⊢
  exact .of_eq (h us hl)

def Passes (CX : CXT) (X : Cx) (E : XK) : Prop := ∀ (pins : List (Addr × Obj)) (σ : St) (H : Hp) (s : Shared) (e : Value) (s' : Shared), Inv X pins σ H s → CX X.stack H s E e s' → X.xe e s'

section
variable {X : Cx} {CX : CXT} {k : Nat} {f C : Addr} {fd : FuncData} {ps : List Str} {sp : Sp} {dvs : List V} {ds : List Value} {E : XK} {x m : Str} {p pos apos : Pos} {e o : Expr} {es : List Expr} {ta : TE} {t : TA}

theorem run_fn {pins : List (Addr × Obj)} {σ : St} {H : Hp} {s : Shared} {Q : VK} {us : List Value} {vs : List V} (F : FnOk X.prog X.w X.K X.mg X.base CX k f fd ps sp) (hr : Room k X.A) (hb : Binds X.K fd ps ds) (hd : Vals dvs ds) (hx : Passes CX X E)
    (I : Inv X pins σ H s) (r : Vals vs us) (h : sp (vs ++ dvs) H Q E) : wpAny (model X.prog X.w) X.A (call (.ref f) us) (EP X pins σ Q) X.xe s := by
  have r2 : Vals (vs ++ dvs) (us ++ ds) := r.append hd
  have hl : (us ++ ds).length = ps.length := by rw [← r2.length]; exact F.len _ _ _ _ h
  refine wpAny_call (codeAny_mono (F.run X.A X.stack s H ⟨us, []⟩ (us ++ ds) (vs ++ dvs) Q E hr I.env0 (hb s us I.kIn hl) r2 h) fun r s' hq => ?_)
  cases r with
  | error e => exact hx pins σ H s e s' I hq
  | ok fl =>
    cases fl with
    | ret u => exact I.after hq
    | next => exact False.elim hq
    | brk => exact False.elim hq
    | cont => exact False.elim hq

theorem pe_call (F : FnOk X.prog X.w X.K X.mg X.base CX k f fd ps sp) (hr : Room k X.A) (hg : Gl X x) (hm : X.mg x = some (.ref f)) (hk : PySem.W.keepIn X.K (.ref f) = true) (hb : Binds X.K fd ps ds) (hd : Vals dvs ds) (hx : Passes CX X E)
    (ha : PA X (e :: es) t) (hdb : (x == ("__debug__" : Str)) = false := by decide) (he : starEach (e :: es) X.env = (false, eval e X.env) :: starEach es X.env := by rfl) (hpl : (backTo pos (starEach es X.env)).any (·.1) = false := by rfl) :
    PE X (.Call (.Name x p) (e :: es) [] pos) (tCall sp dvs E t) := by
  intro pins s σ H Q I h
  refine wpAny_Call_Name_kw (ld_glob I hg hm ?_ hdb)
  refine PySem.W.callWith_K (h₀ := X.base) I.ok.mod.kin hk (thn (ha pos pins s σ H _ I h) fun us s1 ⟨vs, H1, I1, r, q⟩ => ⟨I1.kIn, ?_⟩) he hpl
  exact run_fn F hr hb hd hx I1 r q


structure Mk (K : PySem.W.Frag) (C f : Addr) : Prop where
  makes : PySem.W.makesIn K C = true
  init : PySem.W.findIn K (.ref C) "__init__" = some (some (.ref f))
  fn : PySem.W.isFn K (.ref f) = true
  kp : PySem.W.keepIn K (.ref C) = true

end

section
variable {X : Cx} {CX : CXT} {k : Nat} {f C : Addr} {fd : FuncData} {ps ks : List Str} {sp : Sp} {E : XK} {x m : Str} {p pos apos kpos : Pos} {e o : Expr} {es : List Expr} {kws : List Keyword} {te ta : TE} {t tk : TA} {nm : Option Str}

structure KBinds (K : PySem.W.Frag) (fd : FuncData) (ps ks : List Str) (g : List Value → List Value → List Value) (gV : List V → List V → List V) : Prop where
  to : ∀ (s : Shared) (us ws : List Value), K.In s.heap → (g us ws).length = ps.length → BindsTo s fd ⟨us, ks.zip ws⟩ (ps.zip (g us ws))
  rel : ∀ {vs : List V} {us : List Value} {zs : List V} {ws : List Value}, Vals vs us → Vals zs ws → Vals (gV vs zs) (g us ws)
variable {g : List Value → List Value → List Value} {gV : List V → List V → List V}
end

structure FnScope (N P : List Str) (sc : Scope) : Prop where
  kind : sc.kind = .function
  co : sc.isCoroutine = false
  gen : sc.isGenerator = false
  nd : N.Nodup
  pre : N.take P.length = P
  par : ∀ x ∈ P, sc.names.lookup x = some .local ∨ sc.names.lookup x = some .cell
  nofree : ∀ y ∈ sc.names, y.2 ≠ .free

theorem bindL_out {kindOf : Str → Option NameKind} {x : Str} : ∀ {binds : List (Str × Value)} {m : Str → Option Value}, (∀ v, (x, v) ∉ binds) → bindL kindOf binds m x = m x
  | [], _, _ => rfl
  | (n, v) :: r, m, h => by
    unfold bindL
    rw [bindL_out fun w hw => h w (List.mem_cons_of_mem _ hw)]
    split
    · have : x ≠ n := by rintro rfl; exact h v List.mem_cons_self
      simp [this]
    · rfl
theorem bindC_out {kindOf : Str → Option NameKind} {x : Str} : ∀ {binds : List (Str × Value)} {m : Str → Option Value}, (∀ v, (x, v) ∉ binds) → bindC kindOf binds m x = m x
  | [], _, _ => rfl
  | (n, v) :: r, m, h => by
    unfold bindC
    rw [bindC_out fun w hw => h w (List.mem_cons_of_mem _ hw)]
    split
    · rfl
    · have : x ≠ n := by rintro rfl; exact h v List.mem_cons_self
      simp [this]
theorem bindL_get {kindOf : Str → Option NameKind} {x : Str} {v : Value} : ∀ {P : List Str} {vs : List Value} {i : Nat} {m : Str → Option Value}, P.Nodup → P[i]? = some x → vs[i]? = some v → kindOf x = some .local →
    bindL kindOf (P.zip vs) m x = some v
  | [], _, _, _, _, h, _, _ => by simp at h
  | _ :: _, [], _, _, _, _, h, _ => by simp at h
  | p :: P, w :: vs, 0, m, nd, h1, h2, hk => by
    simp at h1 h2; subst h1; subst h2
    show bindL kindOf ((p, w) :: P.zip vs) m p = _
    unfold bindL
    rw [bindL_out fun v hv => (List.nodup_cons.mp nd).1 (List.of_mem_zip hv).1, if_pos hk]
    simp
  | p :: P, w :: vs, i + 1, m, nd, h1, h2, hk => by
    show bindL kindOf ((p, w) :: P.zip vs) m x = _
    unfold bindL
    exact bindL_get (i := i) (List.nodup_cons.mp nd).2 (by simpa using h1) (by simpa using h2) hk
theorem bindC_get {kindOf : Str → Option NameKind} {x : Str} {v : Value} : ∀ {P : List Str} {vs : List Value} {i : Nat} {m : Str → Option Value}, P.Nodup → P[i]? = some x → vs[i]? = some v → kindOf x ≠ some .local →
    bindC kindOf (P.zip vs) m x = some v
  | [], _, _, _, _, h, _, _ => by simp at h
  | _ :: _, [], _, _, _, _, h, _ => by simp at h
  | p :: P, w :: vs, 0, m, nd, h1, h2, hk => by
    simp at h1 h2; subst h1; subst h2
    show bindC kindOf ((p, w) :: P.zip vs) m p = _
    unfold bindC
    rw [bindC_out fun v hv => (List.nodup_cons.mp nd).1 (List.of_mem_zip hv).1, if_neg hk]
    simp
  | p :: P, w :: vs, i + 1, m, nd, h1, h2, hk => by
    show bindC kindOf ((p, w) :: P.zip vs) m x = _
    unfold bindC
    exact bindC_get (i := i) (List.nodup_cons.mp nd).2 (by simpa using h1) (by simpa using h2) hk

def start (N : List Str) (vs : List V) : St := vs.map some ++ List.replicate (N.length - vs.length) none

def cxOf (CX : CXT) (P : Program) (w : World) (K : PySem.W.Frag) (mg : Str → Option Value) (base : Heap) (N : List Str) (qual : Str) (scope : Scope) (f : Addr) (cd : Value) (A : Around) (outer : List Env) (s : Shared) (H : Hp) (E : XK) : Cx where
  prog := P
  w := w
  K := K
  mg := mg
  base := base
  A := A.deeper (envOfC qual scope s.heap.objs.size f cd)
  N := N
  s₀ := s
  H₀ := H
  env := envOfC qual scope s.heap.objs.size f cd
  outer := outer
  stack := envOfC qual scope s.heap.objs.size f cd :: outer
  ex := []
  calm := true
  fn := fun _ => true
  pn := []
  xe := fun e s' => wpAny (model P w) (A.deeper (envOfC qual scope s.heap.objs.size f cd)) (leaving (envOfC qual scope s.heap.objs.size f cd) e) (fun _ s'' => CX outer H s E e s'') (fun e' s'' => CX outer H s E e' s'') s'

theorem cell_has {sc : Scope} {n : Nat} {x : Str} (h : sc.names.lookup x = some .cell) : ∃ c, (cellsFrom n sc.names []).lookup x = some c := by
  have q := PySem.W.cellsFrom_some sc.names n [] (.inl h)
  exact Option.isSome_iff_exists.mp q

theorem inv_start {CX : CXT} {P : Program} {w : World} {K : PySem.W.Frag} {mg : Str → Option Value} {base : Heap} {N ps : List Str} {qual : Str} {scope : Scope} {f : Addr} {cd : Value} {A : Around} {outer : List Env} {s s1 : Shared} {H : Hp} {E : XK} {us : List Value} {vs : List V}
    (S : FnScope N ps scope) (hd : A.handled = none) (e0 : Env0 P w K mg base A outer s H) (hl : vs.length = ps.length) (r : Vals vs us)
    (x : InCallC s s.heap.objs.size (bindL (envOfC qual scope s.heap.objs.size f cd).kindOf (ps.zip us) fun _ => none) (cellsFrom (s.heap.objs.size + 1) scope.names []) (bindC (envOfC qual scope s.heap.objs.size f cd).kindOf (ps.zip us) fun _ => none) s1) :
    Inv (cxOf CX P w K mg base N qual scope f cd A outer s H E) [] (start N vs) H s1 := by
  have hpl : ps.length ≤ N.length := by have := congrArg List.length S.pre; rw [List.length_take] at this; omega
  obtain ⟨h1, tk, rfl, hk⟩ := x.done
  have noA : ∀ b : Addr, b ∉ (cxOf CX P w K mg base N qual scope f cd A outer s H E).ex := fun b z => absurd (show b ∈ ([] : List Addr) from z) (by simp)
  refine ⟨⟨e0.mod, S.kind, rfl, rfl, Nat.le_refl _, fun y z c h1 h2 => ?_, fun y hy => ?_, fun y c _ h => ?_, fun _ => hd, Around.frames_deeper e0.frames, .inr ⟨rfl, rfl⟩, fun b z => absurd z (noA b), e0.bs, e0.bsz, fun b _ _ => noA b, fun b z => absurd z (noA b), e0.funs, e0.frf⟩,
    rfl, e0.bare, Un.kept hk, ⟨_, x.toInCall.ns, fun i y v h1 h2 h3 => ?_⟩, fun y c h => ⟨_, x.cell y c h⟩, e0.hok.fresh (Nat.le_refl _), fun y c h => ?_, fun p hp => absurd (show p ∈ ([] : List (Addr × Obj)) from hp) (by simp), e0.hok.kept hk, ?_⟩
  · exact name_of_addr x.apart (PySem.mem_of_lookup h1) (PySem.mem_of_lookup h2)
  · have hy : scope.names.lookup y = some .cell ∨ scope.names.lookup y = some .free := hy
    rcases hy with hy | hy
    · exact cell_has hy
    · exact absurd rfl (S.nofree _ (PySem.mem_of_lookup hy))
  · exact Nat.le_of_lt (x.above y c (PySem.mem_of_lookup h))
  · have hi : i < vs.length := by
      unfold start at h2
      by_cases hi : i < vs.length
      · exact hi
      · rw [List.getElem?_append_right (by simpa using hi)] at h2
        rw [List.getElem?_replicate] at h2
        split at h2 <;> cases h2
    have ha : vs[i]? = some v := by
      unfold start at h2
      rw [List.getElem?_append_left (by simpa using hi), List.getElem?_map] at h2
      cases e : vs[i]? with
      | none => rw [e] at h2; cases h2
      | some a => rw [e] at h2; cases h2; rfl
    obtain ⟨u, hu, rv⟩ := r.get ha
    have hp : ps[i]? = some y := by
      rw [← S.pre, List.getElem?_take_of_lt (by omega)]; exact h1
    have ndP : ps.Nodup := by rw [← S.pre]; exact S.nd.sublist (List.take_sublist _ _)
    refine ⟨u, rv, ?_⟩
    rcases S.par y (List.mem_of_getElem? hp) with k | k
    · exact .inl ⟨k, bindL_get ndP hp hu k⟩
    · obtain ⟨c, e⟩ := cell_has (n := s.heap.objs.size + 1) k
      refine .inr ⟨.inl k, c, e, ?_⟩
      have q := x.cell y c e
      rw [bindC_get ndP hp hu (by show scope.names.lookup y ≠ _; rw [k]; decide)] at q
      exact q
  · exact e0.hok.fresh (Nat.le_of_lt (x.above y c (PySem.mem_of_lookup h)))
  · unfold start
    show _ = N.length
    rw [List.length_append, List.length_map, List.length_replicate]
    omega

theorem fn_of {CX : CXT} {P : Program} {w : World} {K : PySem.W.Frag} {mg : Str → Option Value} {base : Heap} {k : Nat} {f : Addr} {name qual : Str} {params : Arguments} {body : List Stmt} {scope : Scope} {dV kV doc pm cdv ct oc : Value} {an od : Option Addr}
    {osl : Array (Option Value)} {N ps : List Str} {sp : Sp} (lk : K.lookup f = some ⟨oc, od, .func (PySem.W.fnOf name qual params body scope dV kV doc pm an cdv ct), osl⟩) (hcd : PySem.W.codeIn K cdv qual = true) (S : FnScope N ps scope)
    (len : ∀ vs H Q E, sp vs H Q E → vs.length = ps.length)
    (hbody : ∀ (A : Around) (outer : List Env) (s : Shared) (H : Hp) (vs : List V) (Q : VK) (E : XK), Room k (A.deeper (envOfC qual scope s.heap.objs.size f cdv)) → sp vs H Q E →
      ∃ t, PSs (cxOf CX P w K mg base N qual scope f cdv A outer s H E) body t ∧ t { nx := fun _ H' => Q .non H', rt := Q } (start N vs) H) :
    FnOk P w K mg base CX (k + 1) f (PySem.W.fnOf name qual params body scope dV kV doc pm an cdv ct) ps sp := by
  refine ⟨len, fun A outer s H args us vs Q E hr e0 hb r hsp => ?_⟩
  have hl := len _ _ _ _ hsp
  have KX : K.In s.heap := e0.mod.kin.keeps fun b o e => (e0.bs b o e).1
  have lim : s.heap.NoLimit := e0.mod.nolimit.keeps fun b o e => (e0.bs b o e).1
  have hkind : ∀ y ∈ ps.zip us, scope.names.lookup y.1 = some .local ∨ (scope.names.lookup y.1 = some .cell ∧ ((cellsFrom (s.heap.objs.size + 1) scope.names []).lookup y.1).isSome = true) := fun ⟨n, v⟩ hy => by
    rcases S.par n (List.of_mem_zip hy).1 with q | q
    · exact .inl q
    · exact .inr ⟨q, PySem.W.cellsFrom_some _ _ _ (.inl q)⟩
  refine codeAny_call_function hr.depth (KX _ _ lk) rfl S.co S.gen rfl (PySem.W.codeRec_of KX hcd) (hb _ _ _ _ ?_)
  refine wpAny_newFunctionEnv_cells S.kind hkind fun env he s1 x => ?_
  subst he
  refine ⟨lim.keeps x.toInCall.keep, codeAny_func ?_⟩
  obtain ⟨t, ht, hq⟩ := hbody A outer s H vs Q E (hr.deeper _) hsp
  have I : Inv (cxOf CX P w K mg base N qual scope f cdv A outer s H E) [] (start N vs) H s1 := inv_start S hr.hd e0 hl r x
  refine wpAny_mono (ht [] s1 (start N vs) H _ I hq) (fun fl s' hs => ?_) fun e s' hs => hs
  have fin : ∀ {σ' : St} {H' : Hp} {v : V} {u : Value}, Inv (cxOf CX P w K mg base N qual scope f cdv A outer s H E) [] σ' H' s' → RelV v u → Q v H' → CE outer P w H s Q u s' :=
    fun {σ' H' v u} J rv q => ⟨v, H', J.os, J.bare, J.base, J.hok, rv, q⟩
  cases fl with
  | ret u =>
    obtain ⟨v, σ', H', J, rv, q⟩ := hs
    exact fin J rv q
  | next =>
    obtain ⟨σ', H', J, q⟩ := hs
    exact fin (v := V.non) (u := Value.none) J rfl q
  | brk =>
    obtain ⟨_, _, _, q⟩ := hs
    exact False.elim q
  | cont =>
    obtain ⟨_, _, _, q⟩ := hs
    exact False.elim q
end L2

namespace L2
open PySem PySem.Spec PyProof.Rows
section
variable {X : Cx} {x : Str} {p pos : Pos} {e : Expr} {es : List Expr} {t : TA} {id T : String} {r : List V → Hp → VK → Prop}

def tCB (r : List V → Hp → VK → Prop) (t : TA) : TE := fun σ H Q => t σ H fun vs H1 => r vs H1 Q
theorem pe_callB (hc : CallR X (.builtin id) r) (hg : Gl X x) (hm : X.mg x = none) (hv : bootBuiltins x = some (.builtin id)) (ha : PA X (e :: es) t) (hn : x ≠ "__name__" := by decide) (hdb : (x == ("__debug__" : Str)) = false := by decide)
    (he : starEach (e :: es) X.env = (false, eval e X.env) :: starEach es X.env := by rfl) (hpl : (backTo pos (starEach es X.env)).any (·.1) = false := by rfl) : PE X (.Call (.Name x p) (e :: es) [] pos) (tCB r t) := by
  intro pins s σ H Q I h
  refine wpAny_Call_Name_kw (ld_blt I hg hm hv ?_ hn hdb)
  exact PyProof.Rows.callWith_builtin1 (thn (ha pos pins s σ H _ I h) fun us s1 ⟨vs, H1, I1, r1, q1⟩ => hc pins s1 σ H1 vs us Q I1 r1 q1) he hpl
theorem pe_callTy (hc : CallR X (.type T) r) (hg : Gl X x) (hm : X.mg x = none) (hv : bootBuiltins x = some (.type T)) (ha : PA X (e :: es) t) (hn : x ≠ "__name__" := by decide) (hdb : (x == ("__debug__" : Str)) = false := by decide)
    (he : starEach (e :: es) X.env = (false, eval e X.env) :: starEach es X.env := by rfl) (hpl : (backTo pos (starEach es X.env)).any (·.1) = false := by rfl) : PE X (.Call (.Name x p) (e :: es) [] pos) (tCB r t) := by
  intro pins s σ H Q I h
  refine wpAny_Call_Name_kw (ld_blt I hg hm hv ?_ hn hdb)
  exact PyProof.Rows.callWith_type1 (thn (ha pos pins s σ H _ I h) fun us s1 ⟨vs, H1, I1, r1, q1⟩ => hc pins s1 σ H1 vs us Q I1 r1 q1) he hpl
end
end L2

namespace HT
open PySem PyProof.Rows



section
open PySem.SeqAt
open PySem.AutoSeq1 (wpAny_loadPart')
open PySem.MeetsSeq PySem.MeetsSeq2 PySem.MeetsSeq3

end

section
variable {prog : Program} {w : World} {A : Around} {E : Value → Shared → Prop} {s : Shared}


theorem cat_tup {t b : Addr} {vs ws : List Value} {Q : Value → Shared → Prop} (ht : IsTup s.heap t vs.toArray) (hb : IsTup s.heap b ws.toArray) (hv : vs ≠ [])
    (h1 : ws = [] → Q (.ref t) s) (h2 : ws ≠ [] → Q (.ref s.heap.objs.size) { s with heap := s.heap.push { cls := .type "tuple", data := .seq (vs ++ ws).toArray } })
    (hsz : vs.length + ws.length ≤ sizeLine) : wpAny (model prog w) A (binaryOp .Add (.ref t) (.ref b)) Q E s := by
  obtain ⟨⟨cls, dd, data, sl⟩, ho, hc, n, hd⟩ := id ht
  obtain ⟨⟨cls2, dd2, data2, sl2⟩, ho2, hc2, n2, hd2⟩ := id hb
  simp only at hc hd hc2 hd2
  subst hc hd hc2 hd2
  have e : vs.toArray ++ ws.toArray = (vs ++ ws).toArray := by simp
  by_cases hw : ws = []
  · exact concat_meets ⟨_, ho, rfl⟩ ⟨_, ho2, rfl⟩ noFill_tuple_add seq_tuple_add PySem.F.slot_tuple_add PySem.F.entry_tuple_add (PySem.F.args_tuple_add_2 _ _)
      (tuple_addW1 t b vs.toArray ws.toArray n n2 dd dd2 sl sl2 (by simpa using hv) (by simp [hw])) ⟨ho, ho2, h1 hw⟩
  · refine concat_meets ⟨_, ho, rfl⟩ ⟨_, ho2, rfl⟩ noFill_tuple_add seq_tuple_add PySem.F.slot_tuple_add PySem.F.entry_tuple_add (PySem.F.args_tuple_add_2 _ _)
      (tuple_addW2 t b vs.toArray ws.toArray n n2 dd dd2 sl sl2 (by simpa using hv) (by simpa using hw) (by rw [List.size_toArray, List.size_toArray]; exact hsz)) ⟨ho, ho2, ?_⟩
    rw [e]
    exact h2 hw


end
end HT

namespace L2
open PySem PySem.Spec PyProof.Rows

abbrev TO := St → Hp → (Option Int → Hp → Prop) → Prop


section
variable {X : Cx} {e : Expr} {te : TE} {lo hi : Option Expr} {tl th : TO} {pos p2 : Pos}




def rCatT (K : PySem.W.Frag) : R2 := fun x y H Q => ∃ a b xs ys, x = .ref a ∧ y = .ref b ∧ SqT K H a xs ∧ SqT K H b ys ∧ xs ≠ [] ∧ xs.length + ys.length ≤ sizeLine ∧
  (ys = [] → Q (.ref a) H) ∧ (ys ≠ [] → ∀ p, H p = none → Q (.ref p) (upd H p (.tup (xs ++ ys))))
theorem Vals.nil_iff {xs : List V} {us : List Value} (r : Vals xs us) : us = [] ↔ xs = [] := by
  cases r with
  | nil => simp
  | cons _ _ => simp
theorem op_catT : OpR X (binaryOp .Add) (rCatT X.K) := by
  intro pins s σ H x y v u Q I rx ry h
  obtain ⟨a, b, xs, ys, rfl, rfl, ha, hb, hx, hz, q1, q2⟩ := h
  cases rx
  cases ry
  obtain ⟨its, r1, p1, _⟩ := I.tuple ha
  obtain ⟨its2, r2, p2, _⟩ := I.tuple hb
  refine HT.cat_tup p1 p2 (fun z => hx (r1.nil_iff.mp z)) (fun z => ⟨.ref a, H, I, rfl, q1 (r2.nil_iff.mp z)⟩) (fun z => ?_) (by rw [← r1.length, ← r2.length]; exact hz)
  refine ⟨.ref s.heap.objs.size, _, I.laid (t' := s.toks) (o := .tup (xs ++ ys)) (fun b ob q => Heap.get?_push_of_some _ q) (Nat.le_refl _) ?_, rfl, q2 (fun w => z (r2.nil_iff.mpr w)) _ (I.hok.fresh (Nat.le_refl _))⟩
  exact ⟨by rw [List.length_append]; exact hz, _, r1.append r2, IsTup.new _ _⟩
end
end L2

namespace L2
open PySem PySem.Spec PyProof.Rows

def ixN (n : Nat) (i : Int) : Option Nat := if 0 ≤ i then (if i < n then some i.toNat else none) else if -(n : Int) ≤ i then some (i + n).toNat else none
def atI {α : Type} (xs : List α) (i : Int) : Option α := (ixN xs.length i).bind fun j => xs[j]?
theorem ixN_seq {n : Nat} {i : Int} {j : Nat} (h : ixN n i = some j) : seqIndex? i n = some j ∧ j < n ∧ -(n : Int) ≤ i ∧ i < n := by
  unfold ixN at h
  by_cases h0 : 0 ≤ i
  · rw [if_pos h0] at h
    by_cases h1 : i < n
    · rw [if_pos h1] at h
      have e : i.toNat = j := Option.some.inj h
      exact ⟨by rw [seqIndex_of h0 h1, e], by omega, by omega, h1⟩
    · rw [if_neg h1] at h; cases h
  · rw [if_neg h0] at h
    by_cases h1 : -(n : Int) ≤ i
    · rw [if_pos h1] at h
      have e : (i + n).toNat = j := Option.some.inj h
      exact ⟨by rw [seqIndex_neg (by omega) h1, e], by omega, h1, by omega⟩
    · rw [if_neg h1] at h; cases h
theorem atI_get {α : Type} {xs : List α} {i : Int} {v : α} (h : atI xs i = some v) : ∃ j, seqIndex? i xs.length = some j ∧ xs[j]? = some v ∧ j < xs.length ∧ -(xs.length : Int) ≤ i ∧ i < xs.length := by
  unfold atI at h
  cases e : ixN xs.length i with
  | none => rw [e] at h; cases h
  | some j =>
    rw [e] at h
    obtain ⟨h1, h2, h3, h4⟩ := ixN_seq e
    exact ⟨j, h1, h, h2, h3, h4⟩

def PlainIx (b : Expr) : Prop := ∀ o i, subscripted b false o i = operate [o, i] (getItem o i)
def IxR (X : Cx) (r : R2) : Prop :=
  ∀ (value slice : Expr) (pins : List (Addr × Obj)) (s : Shared) (σ : St) (H : Hp) (x y : V) (v u : Value) (Q : VK), Inv X pins σ H s → RelV x v → RelV y u → r x y H Q →
    subscripted slice false v u = operate [v, u] (getItem v u) → wpAny (model X.prog X.w) X.A (subscriptTail value slice v u) (EP X pins σ Q) X.xe s
def MtR (X : Cx) (id : String) (r : V → List V → Hp → VK → Prop) : Prop :=
  ∀ (pins : List (Addr × Obj)) (s : Shared) (σ : St) (H : Hp) (x : V) (xs : List V) (v : Value) (us : List Value) (Q : VK), Inv X pins σ H s → RelV x v → Vals xs us → r x xs H Q →
    wpAny (model X.prog X.w) X.A (call (.builtin id) (v :: us)) (EP X pins σ Q) X.xe s
section
variable {X : Cx} {a b : Expr} {ta tb : TE} {pos : Pos}
theorem pe_ix {r : R2} (hr : IxR X r) (ha : PE X a ta) (hb : PE X b tb) (hs : PlainIx b) : PE X (.Subscript a b pos) (tOp r ta tb) := by
  intro pins s σ H Q I h
  exact Subscript_ (binT ha hb I h fun v u s2 x y H2 I2 rx ry q => hr a b pins s2 σ H2 x y v u Q I2 rx ry q (hs _ _))

def rIxL (K : PySem.W.Frag) : R2 := fun x y H Q => ∃ p xs i v, x = .ref p ∧ y = .int i ∧ SqL K H p xs ∧ atI xs i = some v ∧ Q v H
def rIxT (K : PySem.W.Frag) : R2 := fun x y H Q => ∃ p xs i v, x = .ref p ∧ y = .int i ∧ SqT K H p xs ∧ atI xs i = some v ∧ Q v H
theorem ix_list : IxR X (rIxL X.K) := by
  intro value slice pins s σ H x y v u Q I rx ry h hs
  obtain ⟨p, xs, i, z, rfl, rfl, hq, he, q⟩ := h
  cases rx
  obtain ⟨t, rfl⟩ := ry
  obtain ⟨its, r, pl, hz⟩ := I.list hq
  obtain ⟨j, h1, h2, h3, h4, h5⟩ := atI_get he
  obtain ⟨w, ew, rw'⟩ := r.get h2
  have hl := r.length
  have hn := line63
  have fin : EP X pins σ Q w s := ⟨z, H, I, rw', q⟩
  by_cases h0 : 0 ≤ i
  · have hj : i.toNat = j := by
      rw [seqIndex_of h0 h5] at h1
      exact Option.some.inj h1
    exact item_listR pl.isList h0 (by omega) (by rw [hj]; simpa using ew) fin hs
  · have hj : (i + (its.toArray.size : Int)).toNat = j := by
      rw [seqIndex_neg (by omega) h4] at h1
      rw [List.size_toArray, ← hl]
      exact Option.some.inj h1
    exact subscriptTail_builtinR (x := w) pl.isList.typeIs slot_list_getitem.lookup
      (wpAny_getItem_list_neg (Q := fun r s' => r = w ∧ EP X pins σ Q r s') pl.isList (by omega) (by rw [List.size_toArray] <;> omega) (by omega) (by rw [hj]; simpa using ew) ⟨rfl, fin⟩) hs
theorem ix_tup : IxR X (rIxT X.K) := by
  intro value slice pins s σ H x y v u Q I rx ry h hs
  obtain ⟨p, xs, i, z, rfl, rfl, hq, he, q⟩ := h
  cases rx
  obtain ⟨t, rfl⟩ := ry
  obtain ⟨its, r, pl, hz⟩ := I.tuple hq
  obtain ⟨j, h1, h2, h3, h4, h5⟩ := atI_get he
  obtain ⟨w, ew, rw'⟩ := r.get h2
  have hl := r.length
  have hn := line63
  have fin : EP X pins σ Q w s := ⟨z, H, I, rw', q⟩
  exact subscriptTail_builtinR (x := w) pl.typeIs slot_tuple_getitem.lookup
    (getItem_tuple (j := j) (Q := fun r s' => r = w ∧ EP X pins σ Q r s') pl (by omega) (by omega) (by rw [List.size_toArray, ← hl]; exact h1) (by simpa using ew) ⟨rfl, fin⟩) hs

theorem mapSeq_set (its : List Value) (n j : Nat) (u : Value) : Obj.mapSeq (·.setIfInBounds j u) { cls := .type "list", data := .seq its.toArray n } = { cls := .type "list", data := .seq (its.set j u).toArray n } := by
  simp [Obj.mapSeq]
theorem Inv.lst {pins : List (Addr × Obj)} {σ : St} {H : Hp} {s : Shared} {p : Addr} {xs : List V} (I : Inv X pins σ H s) (h : H p = some (.lst xs)) :
    ∃ (its : List Value) (n : Nat), Vals xs its ∧ s.heap.get? p = some { cls := .type "list", data := .seq its.toArray n } ∧ xs.length ≤ sizeLine := by
  obtain ⟨z, its, n, r, e⟩ := I.hok p _ h
  exact ⟨its, n, r, e, z⟩
theorem Inv.lstUpd {pins : List (Addr × Obj)} {σ : St} {H : Hp} {s : Shared} {p : Addr} {xs ys : List V} {its its' : List Value} {n n' : Nat} {f : Obj → Obj} (I : Inv X pins σ H s) (h : H p = some (.lst xs))
    (ho : s.heap.get? p = some { cls := .type "list", data := .seq its.toArray n }) (hf : f { cls := .type "list", data := .seq its.toArray n } = { cls := .type "list", data := .seq its'.toArray n' }) (r : Vals ys its') (hz : ys.length ≤ sizeLine) (t : Nat) :
    Inv X pins σ (upd H p (.lst ys)) { s with heap := s.heap.update p f, toks := t } := by
  have e : (s.heap.update p f).get? p = some { cls := .type "list", data := .seq its'.toArray n' } := by
    rw [Heap.get?_update_self f ho (by rw [hf] <;> rfl), hf]
  refine I.write (x := p) (e := p) (by rw [h]; trivial) (.inl rfl) (fun b u hb q => (Heap.get?_update_other _ _ (Ne.symm hb)).trans q) ⟨_, e⟩ ?_
  exact ⟨hz, its', n', r, e⟩
def rSetL : V → V → V → Hp → (Hp → Prop) → Prop := fun o i v H Q => ∃ p xs k j, o = .ref p ∧ i = .int k ∧ H p = some (.lst xs) ∧ ixN xs.length k = some j ∧ Q (upd H p (.lst (xs.set j v)))
theorem set_list : PSet X rSetL := by
  intro pins s σ H o i v ov iv u Q I ro ri rv h
  obtain ⟨p, xs, k, j, rfl, rfl, hp, hj, q⟩ := h
  cases ro
  obtain ⟨t, rfl⟩ := ri
  obtain ⟨its, n, r, ho, hz⟩ := I.lst hp
  obtain ⟨h1, h2, h3, h4⟩ := ixN_seq hj
  have hl := r.length
  have hn := line63
  have I' : Inv X pins σ (upd H p (.lst (xs.set j v))) { s with heap := s.heap.update p (Obj.mapSeq (·.setIfInBounds j u)) } :=
    I.lstUpd hp ho (mapSeq_set its n j u) (r.set rv j) (by rw [List.length_set]; exact hz) s.toks
  by_cases h0 : 0 ≤ k
  · have hk : k.toNat = j := by
      rw [seqIndex_of h0 h4] at h1
      exact Option.some.inj h1
    exact PySem.W.ki_setAt ho h0 (by omega) (by rw [List.size_toArray, ← hl]; exact h4) (by rw [hk]; exact ⟨_, I', q⟩)
  · have hk : (k + (its.toArray.size : Int)).toNat = j := by
      rw [seqIndex_neg (by omega) h3] at h1
      rw [List.size_toArray, ← hl]
      exact Option.some.inj h1
    exact PySem.W.ki_setBack ho (by omega) (by rw [List.size_toArray, ← hl]; exact h3) (by omega) (by rw [hk]; exact ⟨_, I', q⟩)



theorem call_len_seq : CallR X (.builtin "len") (fun xs H Q => ∃ p ys, xs = [.ref p] ∧ (SqL X.K H p ys ∨ SqT X.K H p ys) ∧ Q (.int ys.length) H) := by
  intro pins s σ H xs us Q I r h
  obtain ⟨p, ys, rfl, hq, q⟩ := h
  obtain ⟨u, rfl, rx⟩ := vals1 r
  cases rx
  have hn := line63
  rcases hq with hq | hq
  · obtain ⟨its, r', pl, hz⟩ := I.list hq
    have hlen := r'.length
    exact Calls.call_len_list pl.isList (by simp only [List.size_toArray] <;> omega) ⟨.int ys.length, H, I.tok _, ⟨s.toks + 1, by rw [List.size_toArray, hlen]⟩, q⟩
  · obtain ⟨its, r', pl, hz⟩ := I.tuple hq
    have hlen := r'.length
    exact len_tuple pl (by simp only [List.size_toArray] <;> omega) ⟨.int ys.length, H, I.tok _, ⟨s.toks + 1, by rw [List.size_toArray, hlen]⟩, q⟩
theorem call_list_of : CallR X (.type "list") (fun xs H Q => ∃ p ys, xs = [.ref p] ∧ (SqL X.K H p ys ∨ SqT X.K H p ys) ∧ ∀ l, H l = none → Q (.ref l) (upd H l (.lst ys))) := by
  intro pins s σ H xs us Q I r h
  obtain ⟨p, ys, rfl, hq, q⟩ := h
  obtain ⟨u, rfl, rx⟩ := vals1 r
  cases rx
  have fin : ∀ (its : List Value), Vals ys its → ys.length ≤ sizeLine → ∀ (h' : Heap) (c' : Nat), (∀ b o', s.heap.get? b = some o' → h'.get? b = some o') →
      h'.get? s.heap.objs.size = some { cls := .type "list", dict := none, data := .seq its.toArray c', slots := #[] } → EP X pins σ Q (.ref s.heap.objs.size) { s with heap := h' } := fun its r' hz h' c' kp e =>
    ⟨.ref s.heap.objs.size, _, I.laid (t' := s.toks) kp (Nat.le_refl _) (show ObjOk X.prog X.w _ h' _ (.lst ys) from ⟨hz, its, c', r', e⟩), rfl, q _ (I.hok.fresh (Nat.le_refl _))⟩
  rcases hq with hq | hq
  · obtain ⟨its, r', pl, hz⟩ := I.list hq
    have hlen := r'.length
    obtain ⟨o, ho, hc, n, hd⟩ := pl.isList
    exact call_list_seq p (.inl rfl) ho hc hd (fun h' c' kp e => fin its r' hz h' c' kp e) (by simp only [List.size_toArray] <;> omega)
  · obtain ⟨its, r', pl, hz⟩ := I.tuple hq
    have hlen := r'.length
    obtain ⟨o, ho, hc, n, hd⟩ := pl
    exact call_list_seq p (.inr rfl) ho hc hd (fun h' c' kp e => fin its r' hz h' c' kp e) (by simp only [List.size_toArray] <;> omega)
theorem call_tuple_of : CallR X (.type "tuple") (fun xs H Q => ∃ p ys, xs = [.ref p] ∧ ((SqL X.K H p ys ∧ ∀ l, H l = none → Q (.ref l) (upd H l (.tup ys))) ∨ (SqT X.K H p ys ∧ Q (.ref p) H))) := by
  intro pins s σ H xs us Q I r h
  obtain ⟨p, ys, rfl, h⟩ := h
  obtain ⟨u, rfl, rx⟩ := vals1 r
  cases rx
  rcases h with ⟨hq, q⟩ | ⟨hq, q⟩
  · obtain ⟨its, r', pl, hz⟩ := I.list hq
    have hlen := r'.length
    refine call_tuple_list pl.isList (fun h' kp => ?_) (by simp only [List.size_toArray] <;> omega)
    have I1 : Inv X pins σ H { s with heap := h' } := I.kept (t' := s.toks) kp
    have I2 : Inv X pins σ (upd H h'.objs.size (.tup ys)) { s with heap := h'.push { cls := .type "tuple", data := .seq its.toArray } } :=
      I1.laid (t' := s.toks) (fun b o e => Heap.get?_push_of_some _ e) (Nat.le_refl _) (show ObjOk X.prog X.w _ _ _ (.tup ys) from ⟨hz, its, r', IsTup.new _ _⟩)
    exact ⟨.ref h'.objs.size, _, I2, rfl, q _ (I1.hok.fresh (Nat.le_refl _))⟩
  · obtain ⟨its, r', pl, hz⟩ := I.tuple hq
    exact call_tuple_same pl ⟨.ref p, H, I, rfl, q⟩

def tyV (K : PySem.W.Frag) (T : String) (x : V) (H : Hp) : Prop := match x with
  | .str _ => T = "str"
  | .int _ => T = "int"
  | .ref p => (T = "list" ∧ ∃ xs, SqL K H p xs) ∨ (T = "tuple" ∧ ∃ o, K.lookup p = some o ∧ o.cls = .type "tuple" ∧ o.dict = none) ∨
      (T = "dict" ∧ ((∃ kvs, H p = some (.dK kvs)) ∨ ∃ kvs, H p = some (.dT kvs))) ∨ (T = "set" ∧ ∃ S n, H p = some (.set S n))
  | _ => False
theorem tyV_is {pins : List (Addr × Obj)} {σ : St} {H : Hp} {s : Shared} {T : String} {x : V} {v : Value} (I : Inv X pins σ H s) (r : RelV x v) (ty : tyV X.K T x H) :
    s.TypeIs v T ∧ ∀ a, v = .ref a → ∃ ob, s.heap.get? a = some ob ∧ ob.dict = none := by
  cases x with
  | str z =>
    obtain ⟨t, rfl⟩ := r
    cases (show T = "str" from ty)
    exact ⟨typeIs_str s z t, fun _ e => nomatch e⟩
  | int i =>
    obtain ⟨t, rfl⟩ := r
    cases (show T = "int" from ty)
    exact ⟨typeIs_int s i t, fun _ e => nomatch e⟩
  | ref p =>
    cases r
    rcases ty with ⟨rfl, xs, hq⟩ | ⟨rfl, o, hk, hc, hd⟩ | ⟨rfl, hk⟩ | ⟨rfl, S, n, hk⟩
    · obtain ⟨its, _, pl, _⟩ := I.list hq
      refine ⟨pl.isList.typeIs, fun a e => ?_⟩
      cases e
      obtain ⟨o, n, e, c, hd, _⟩ := pl
      exact ⟨o, e, hd⟩
    · refine ⟨⟨o, I.kIn p o hk, hc⟩, fun a e => ?_⟩
      cases e
      exact ⟨o, I.kIn _ o hk, hd⟩
    · have z : ∃ o, s.heap.get? p = some o ∧ o.ExactDict := by
        rcases hk with ⟨kvs, hk⟩ | ⟨kvs, hk⟩
        · obtain ⟨_, _, _, _, o, _, _, e, ex, _⟩ := I.hok p _ hk
          exact ⟨o, e, ex⟩
        · obtain ⟨_, _, _, _, o, _, _, e, ex, _⟩ := I.hok p _ hk
          exact ⟨o, e, ex⟩
      obtain ⟨o, e, ex⟩ := z
      refine ⟨⟨o, e, ex.1⟩, fun a e2 => ?_⟩
      cases e2
      exact ⟨o, e, ex.2.1⟩
    · obtain ⟨o, _, _, _, e, ex, _⟩ := I.hok p _ hk
      refine ⟨⟨o, e, ex.1⟩, fun a e2 => ?_⟩
      cases e2
      exact ⟨o, e, ex.2.1⟩
  | _ => exact False.elim ty
def tBM0 (K : PySem.W.Frag) (T : String) (r : V → List V → Hp → VK → Prop) (to : TE) : TE := fun σ H Q => to σ H fun x H1 => tyV K T x H1 ∧ r x [] H1 Q
def tBM (K : PySem.W.Frag) (T : String) (r : V → List V → Hp → VK → Prop) (to : TE) (t : TA) : TE := fun σ H Q => to σ H fun x H1 => tyV K T x H1 ∧ t σ H1 fun xs H2 => r x xs H2 Q
variable {o e : Expr} {es : List Expr} {to : TE} {t : TA} {name : Str} {apos cpos : Pos} {T id : String} {r : V → List V → Hp → VK → Prop}
theorem pe_bm0 (pa : PlainAttrs T) (slot : Slot T name id) (hty : typeOf (.builtin id) = pure (.type "method_descriptor")) (hm : MtR X id r) (ho : PE X o to)
    (hbase : attributeBase o name X.env (eval o X.env) = eval o X.env := by rfl) (hline : (apos.endLine == cpos.line) = true := by rfl) : PE X (.Call (.Attribute o name apos) [] [] cpos) (tBM0 X.K T r to) := by
  intro pins s σ H Q I h
  refine wpAny_Call_method0_late hbase hline (thn (ho pins s σ H _ I h) fun v s1 ⟨x, H1, I1, r1, ty, q1⟩ => ?_)
  obtain ⟨h1, h2⟩ := tyV_is I1 r1 ty
  exact ⟨T, id, pa, slot, hty, h1, h2, Calls.callWith_builtin rfl (PySem.evalArgs_none (hm pins s1 σ H1 x [] v [] Q I1 r1 .nil q1))⟩
theorem pe_bm (pa : PlainAttrs T) (slot : Slot T name id) (hty : typeOf (.builtin id) = pure (.type "method_descriptor")) (hm : MtR X id r) (ho : PE X o to) (ha : PA X (e :: es) t)
    (hbase : attributeBase o name X.env (eval o X.env) = eval o X.env := by rfl)
    (hfew : ((backTo cpos (starEach (e :: es) X.env)).all (fun x => !x.1) && (backToKw cpos (keywordEach [] X.env)).all (fun x => x.1.isSome)
      && decide ((e :: es).length + ([] : List Keyword).length + (if ([] : List Keyword).isEmpty then 0 else 1) < 30)) = true := by rfl)
    (hline : (apos.endLine == cpos.line) = true := by rfl) (hs : starEach (e :: es) X.env = (false, eval e X.env) :: starEach es X.env := by rfl) (hplain : (backTo cpos (starEach es X.env)).any (·.1) = false := by rfl) :
    PE X (.Call (.Attribute o name apos) (e :: es) [] cpos) (tBM X.K T r to t) := by
  intro pins s σ H Q I h
  refine wpAny_Call_method_late hbase hfew hline rfl (thn (ho pins s σ H _ I h) fun v s1 ⟨x, H1, I1, r1, ty, q1⟩ => ?_)
  obtain ⟨h1, h2⟩ := tyV_is I1 r1 ty
  refine ⟨T, id, pa, slot, hty, h1, h2, ?_⟩
  have hA := ha cpos pins s1 σ H1 _ I1 q1
  rw [hs] at hA ⊢
  refine Calls.callWith_builtin (by show (false || (backTo cpos (starEach es X.env)).any (·.1)) = false; rw [hplain] <;> rfl) (Calls.evalArgs_plain ?_)
  exact thn hA fun us s2 ⟨vs, H2, I2, r2, q2⟩ => hm pins s2 σ H2 x vs v us Q I2 r1 r2 q2
end
end L2

namespace L2
open PySem PySem.Spec PyProof.Rows

def MtM (X : Cx) (id : String) (r : V → List V → Hp → VK → Prop) : Prop :=
  ∀ (pins : List (Addr × Obj)) (s : Shared) (σ : St) (H : Hp) (x : V) (xs : List V) (v : Value) (us : List Value) (Q : VK), Inv X pins σ H s → RelV x v → Vals xs us → r x xs H Q →
    wpAny (model X.prog X.w) X.A (call (.builtin id) (v :: us)) (EP X pins σ Q) X.xe s

theorem Vals.one : ∀ {x : V} {us : List Value}, Vals [x] us → ∃ u, us = [u] ∧ RelV x u
  | _, _, .cons r .nil => ⟨_, rfl, r⟩
theorem Vals.zero : ∀ {us : List Value}, Vals [] us → us = []
  | _, .nil => rfl
theorem Vals.dropLast {xs : List V} {us : List Value} (h : Vals xs us) : Vals xs.dropLast us.dropLast := by
  induction h with
  | nil => exact .nil
  | cons r t ih =>
    cases t with
    | nil => exact .nil
    | cons q t' => exact .cons r ih
theorem Vals.eraseIdx : ∀ {xs : List V} {us : List Value} (i : Nat), Vals xs us → Vals (xs.eraseIdx i) (us.eraseIdx i)
  | _, _, _, .nil => .nil
  | _, _, 0, .cons _ t => t
  | _, _, i + 1, .cons r t => .cons r (Vals.eraseIdx i t)
theorem Vals.reverse {xs : List V} {us : List Value} (h : Vals xs us) : Vals xs.reverse us.reverse := by
  induction h with
  | nil => exact .nil
  | cons r t ih => rw [List.reverse_cons, List.reverse_cons]; exact Vals.append ih (.cons r .nil)
theorem erase_last {α : Type} (l : List α) : l.eraseIdx (l.length - 1) = l.dropLast := by
  induction l with
  | nil => rfl
  | cons a r ih =>
    cases r with
    | nil => rfl
    | cons b r =>
      have e : (a :: b :: r).length - 1 = ((b :: r).length - 1) + 1 := by
        have h1 : (a :: b :: r).length = r.length + 2 := rfl
        have h2 : (b :: r).length = r.length + 1 := rfl
        omega
      rw [e, List.eraseIdx_cons_succ, ih]
      all_goals rfl

section
variable {X : Cx} {pins : List (Addr × Obj)} {σ : St} {H : Hp} {s : Shared} {l b : Addr} {xs ys zs : List V}

theorem Inv.lset {its its' : List Value} {n : Nat} {f : Array Value → Array Value} {t' : Nat} (I : Inv X pins σ H s) (hH : H l = some (.lst xs))
    (e : s.heap.get? l = some { cls := .type "list", data := .seq its.toArray n }) (hf : f its.toArray = its'.toArray) (hv : Vals ys its') (hz : ys.length ≤ sizeLine) :
    Inv X pins σ (upd H l (.lst ys)) { s with heap := s.heap.update l (Obj.mapSeq f), toks := t' } := by
  have q := PySem.IsL.update e f
  rw [hf] at q
  refine I.write (x := l) (e := l) (by rw [hH]; exact trivial) (.inl rfl) (fun b' u hb hu => (Heap.get?_update_other s.heap (Obj.mapSeq f) (Ne.symm hb)).trans hu) ⟨_, q⟩ ?_
  exact ⟨hz, its', _, hv, q⟩
theorem Inv.fresh (I : Inv X pins σ H s) : H s.heap.objs.size = none := I.hok.fresh (Nat.le_refl _)
theorem Inv.lstM (I : Inv X pins σ H s) (hH : H l = some (.lst xs)) : xs.length ≤ sizeLine ∧ ∃ (its : List Value) (n : Nat), Vals xs its ∧ xs.length = its.length ∧ s.heap.get? l = some { cls := .type "list", data := .seq its.toArray n } := by
  obtain ⟨z, its, n, r, e⟩ := I.hok l _ hH
  exact ⟨z, its, n, r, r.length, e⟩

end

section
variable {X : Cx}

def rAppend : V → List V → Hp → VK → Prop := fun x vs H Q => ∃ l xs y, x = .ref l ∧ vs = [y] ∧ H l = some (.lst xs) ∧ xs.length < sizeLine ∧ Q .non (upd H l (.lst (xs ++ [y])))
theorem mt_append : MtM X "list.append" rAppend := by
  intro pins s σ H x vs v us Q I rx rv h
  obtain ⟨l, xs, y, rfl, rfl, hH, hz, q⟩ := h
  cases rx
  obtain ⟨u, rfl, ru⟩ := rv.one
  obtain ⟨z, its, n, r, hl, e⟩ := I.lstM hH
  refine call_meets F.slot_list_append ⟨_, e, rfl⟩ F.entry_list_append (F.args_list_append_2 _ _) (PySem.list_append l its.toArray n u (by rw [List.size_toArray]; omega)) ⟨e, ?_⟩
  refine ⟨.non, _, I.lset (its' := its ++ [u]) hH e (by simp) (r.append (.cons ru .nil)) ?_, rfl, q⟩
  rw [List.length_append, List.length_singleton]
  omega


def rPop : V → List V → Hp → VK → Prop := fun x vs H Q => ∃ l xs y, x = .ref l ∧ vs = [] ∧ H l = some (.lst xs) ∧ xs[xs.length - 1]? = some y ∧ Q y (upd H l (.lst xs.dropLast))
theorem mt_pop : MtM X "list.pop" rPop := by
  intro pins s σ H x vs v us Q I rx rv h
  obtain ⟨l, xs, y, rfl, rfl, hH, hy, q⟩ := h
  cases rx
  have hus := rv.zero
  subst hus
  obtain ⟨z, its, n, r, hl, e⟩ := I.lstM hH
  obtain ⟨u, hu, ru⟩ := r.get hy
  have hy' : its.toArray[its.toArray.size - 1]? = some u := by
    show its.toArray[its.length - 1]? = some u
    rw [← Array.getElem?_toList, ← hl]
    exact hu
  refine call_meets F.slot_list_pop ⟨_, e, rfl⟩ F.entry_list_pop (F.args_list_pop_1 _) (MeetsSeq.list_pop_last l its.toArray n u hy' (by rw [List.size_toArray]; omega)) ⟨e, ?_⟩
  refine ⟨y, _, I.lset (its' := its.dropLast) hH e ?_ r.dropLast ?_, ru, q⟩
  · show its.toArray.eraseIdxIfInBounds (its.toArray.size - 1) = its.dropLast.toArray
    rw [List.size_toArray, List.eraseIdxIfInBounds_toArray, erase_last]
  · rw [List.length_dropLast]
    omega





end

section
variable {prog : Program} {w : World} {A : Around} {E : Value → Shared → Prop} {s : Shared}
end

section
variable {X : Cx}
end
end L2

namespace Att
open PySem PySem.W PySem.Calls PyProof.Rows

theorem ints_of_wellAll {P : Params} {h : Heap} : ∀ (ns : List Int) (vs : List Value), WellAll P h vs (ns.map WData.int) → IntsAre vs ns := by
  intro ns
  induction ns with
  | nil =>
    intro vs w
    rw [List.map_nil] at w
    cases w
    exact .nil
  | cons n ns ih =>
    intro vs w
    rw [List.map_cons] at w
    cases w with
    | cons a b =>
      cases a
      exact .cons _ _ (ih _ b)

theorem script_of {l : OpenLaw} {n : Nat} (hn : l.most = some n) {P : Params} {h : Heap} {args : List WData} {vals : List Value}
    (hpre : l.row.toRowW.claim.pre args = true) (hwl : WellAll P h vals args) :
    ∃ a vs ns, vals = [Value.ref a] ∧ args = [WData.list (ns.map WData.int)] ∧ h.get? a = some { cls := .type "list", data := .seq vs.toArray } ∧ IntsAre vs ns ∧ ns.length ≤ n := by
  have hsh : WShape.hasAll [] args [.list .int] = true := (pre_splitW hpre).1
  have hc : l.pre.holds [] { args := args } = true := (pre_splitW hpre).2
  obtain ⟨d, r, rfl, h1, h2⟩ := hasAllW_cons hsh
  obtain rfl := hasAllW_nil h2
  obtain ⟨xs, rfl, h3⟩ := hasW_list h1
  obtain ⟨ns, rfl⟩ := items_int h3
  have hlen : ns.length ≤ n := by
    unfold OpenLaw.pre at hc
    have h4 : (WTm.not (.lt (.lit (.int (n : Int))) (.len (.arg 0)))).holds [] { args := [.list (ns.map .int)] } = true := by
      have h4 := (holds_andW hc).1
      rw [hn] at h4
      exact h4
    have h5 := condW_of h4 (w_not (w_lt w_lit (w_len_list (w_arg rfl))))
    rw [List.length_map] at h5
    refine Nat.le_of_not_lt fun q => ?_
    have q' : (n : Int) < ((ns.length : Nat) : Int) := by omega
    first
      | (rw [decide_eq_true q'] at h5; exact absurd h5 (by decide))
      | (simp at h5; omega)
  cases hwl with
  | cons w1 w2 =>
    cases w2
    cases w1 with
    | list ho hall => exact ⟨_, _, ns, rfl, rfl, ho, ints_of_wellAll ns _ hall, hlen⟩

theorem post_true (l : OpenLaw) (args : List WData) : l.row.toRowW.claim.post args (.bool true) args = true :=
  postW_of (r := l.row.toRowW) (X := (true == true))
    (show WShape.has [] (.bool true) .bool = true by first | rfl | decide | simp [WShape.has, WShape.arms, WShape.armsAll])
    (show (WTm.eq .res (.lit (.bool true))).value [] { args := args, res := some (.bool true), after := args } = some (.bool (true == true)) from w_eq_bool (w_res rfl) w_lit) rfl


theorem attach_call {l : OpenLaw} {n : Nat} {q : Program} {loose : List Str} {XP : (Str → Option Value) → Heap → Prop} {YP : World → Heap → Prop} {d : DefRec}
    (hn : l.most = some n) (hdf : d.params.defaults = [])
    (call : ∀ (w : World) (s₀ s₁ : Shared) (mg mb : Str → Option Value) (fa : Addr) (o : Obj) (pm cd doc : Value) (a : Addr) (vs : List Value) (ns : List Int),
      Ground q loose [] XP w s₀ mg mb s₁.heap → YP w s₁.heap →
      s₁.heap.get? fa = some o → o.data = .func (docDef d.name d.params d.body d.scope pm cd doc) → s₁.heap.CodeRec cd d.name → mg d.name = some (.ref fa) →
      s₁.heap.get? a = some { cls := .type "list", data := .seq vs.toArray } → IntsAre vs ns → ns.length ≤ n → s₁.gens = #[] →
      codeAny (model l.prog w) callerA (.call (.ref fa) ⟨[.ref a], []⟩) (fun r s' => r = .ok (.ret (.bool true)) ∧ OldK s₁.heap s'.heap ∧ s'.os = s₁.os ∧ AllBare s'.gens) s₁) :
    WalkO q loose XP YP l.row.toRowW d [] (fun f vs => PySem.call f vs) := by
  intro w s₀ s₁ mg mb G Y fa o pm cd doc dV kV ho hd hcd hD hmg hg args vals as hpre hlay hrd hwl hlo
  obtain rfl : dV = .none := Dflts.none hD hdf
  obtain rfl : kV = .none := Dflts.noKw hD
  obtain ⟨a, vs, ns, rfl, rfl, hobj, hints, hlen⟩ := script_of hn hpre hwl
  refine enter_call (codeAny_mono (call w s₀ s₁ mg mb fa o pm cd doc a vs ns G Y ho (fd_plain hd) hcd hmg hobj hints hlen hg) fun r s' hq => ?_)
  obtain ⟨rfl, h2, h3, h4⟩ := hq
  exact ⟨.inl ⟨.bool true, .bool true, [], rfl, fun _ => rfl, .bool true, post_true l _, fun _ => ⟨List.Pairwise.nil, fun _ hm => (nomatch hm)⟩⟩, h2, h3, h4⟩


section
variable {prog : Program} {w : World} {A : Around} {E : Value → Shared → Prop} {s : Shared} {K : Frag}






end
end Att

namespace L2
open PySem PySem.Spec PyProof.Rows

theorem vals_ints : ∀ {vs : List Value} {ns : List Int}, IntsAre vs ns → Vals (ns.map V.int) vs
  | _, _, .nil => .nil
  | _, _, .cons n t h => .cons ⟨t, rfl⟩ (vals_ints h)

def Only (H : Hp) : Prop := ∀ b, H b = none ∨ ∃ o xs, H b = some (.frz o (.lst xs))

theorem law_call {P : Program} {w : World} {K : PySem.W.Frag} {mg mb : Str → Option Value} {CX : CXT} {k : Nat} {fa a : Addr} {fd : FuncData} {x : Str} {sp : Sp} {s₁ : Shared} {vs : List Value} {ns : List Int}
    (KX : K.In s₁.heap) (hns : s₁.heap.Ns mainGlobals mg) (hb : s₁.heap.Ns builtinsNs mb) (hbb : ∀ x : Str, x ≠ "__name__" → mb x = bootBuiltins x) (hlim : s₁.heap.NoLimit) (hg : s₁.gens = #[])
    (ha : s₁.heap.get? a = some { cls := .type "list", data := .seq vs.toArray }) (hi : IntsAre vs ns) (hl : ns.length ≤ sizeLine) (hr : Room k callerA)
    (F : ∀ base : Heap, K.In base → base.Ns mainGlobals mg → FnOk P w K mg base CX k fa fd [x] sp) (hbind : ∀ (s : Shared) (u : Value), BindsTo s fd ⟨[u], []⟩ [(x, u)])
    (hsp : ∀ H : Hp, Only H → SqL K H a (ns.map V.int) → sp [.ref a] H (fun v _ => v = .bl true) fun _ _ _ => False)
    (hCX : ∀ H e s', CX [] H s₁ (fun _ _ _ => False) e s' → False) :
    codeAny (model P w) callerA (.call (.ref fa) ⟨[.ref a], []⟩) (fun r s' => r = .ok (.ret (.bool true)) ∧ OldK s₁.heap s'.heap ∧ s'.os = s₁.os ∧ AllBare s'.gens) s₁ := by
  have rv := vals_ints hi
  have lenV := hi.length
  -- from an abstract heap in which nothing but the script may be tracked
  have core : ∀ H : Hp, Only H → SqL K H a (ns.map V.int) → HOk P w H s₁.heap → (∀ b, H b ≠ none → b = a) → (H a ≠ none → K.lookup a = none) →
      codeAny (model P w) callerA (.call (.ref fa) ⟨[.ref a], []⟩) (fun r s' => r = .ok (.ret (.bool true)) ∧ OldK s₁.heap s'.heap ∧ s'.os = s₁.os ∧ AllBare s'.gens) s₁ := by
    intro H hO hS hok hA hK
    have base_of : ∀ {b : Addr} {o : Obj}, s₁.heap.get? b = some o → H b = none → (hidT s₁.heap H).get? b = some o := fun e n => hidT_get e n
    have noA : ∀ {b : Addr} {o : Obj} {es : Array DictEntry} {ep : Nat}, s₁.heap.get? b = some o → o.data = .dict es ep → H b = none := fun {b o es ep} e d => by
      cases q : H b with
      | none => rfl
      | some u =>
        have e' : b = a := hA b (by rw [q]; simp)
        subst e'
        rw [ha] at e; cases e
        have d' : Data.seq vs.toArray _ = Data.dict es ep := d
        cases d'
    have nsK : ∀ {b : Addr} {m : Str → Option Value}, s₁.heap.Ns b m → (hidT s₁.heap H).Ns b m := fun {b m} ⟨o, es, ep, e, d, r⟩ => ⟨o, es, ep, base_of e (noA e d), d, r⟩
    have hKb : K.In (hidT s₁.heap H) := fun b o e => base_of (KX b o e) (by
      cases q : H b with
      | none => rfl
      | some u =>
        have e' : b = a := hA b (by rw [q]; simp)
        subst e'
        rw [hK (by rw [q]; simp)] at e; cases e)
    have hM : Mod K mg (hidT s₁.heap H) := ⟨hKb, nsK hns, ⟨mb, nsK hb, hbb⟩, let ⟨mc, h1, h2⟩ := hlim; ⟨mc, nsK h1, h2⟩⟩
    have e0 : Env0 P w K mg (hidT s₁.heap H) callerA [] s₁ H := ⟨rfl, hM, fun b o e => of_hidT e, Nat.le_of_eq (hidT_size _ _), trivial, fun b hb => absurd (show b ∈ ([] : List Addr) from hb) (by simp), hok, .of_eq hg⟩
    refine codeAny_mono ((F _ hKb (nsK hns)).run callerA [] s₁ H ⟨[.ref a], []⟩ [.ref a] [.ref a] _ _ hr e0 (hbind s₁ (.ref a)) (.cons rfl .nil) (hsp H hO hS)) fun r s' h => ?_
    cases r with
    | error e => exact (hCX H e s' h).elim
    | ok fl =>
      cases fl with
      | next => exact False.elim h
      | brk => exact False.elim h
      | cont => exact False.elim h
      | ret u =>
        obtain ⟨v, H', os, bare, un, hok', r', q⟩ := h
        have q' : v = .bl true := q
        subst q'
        obtain rfl : u = Value.bool true := r'
        refine ⟨rfl, OldK.of_keep fun b o e => ?_, os, bare⟩
        cases q : H b with
        | none => exact un.keep b o e q (by intro z; exact absurd (show b ∈ ([] : List Addr) from z) (by simp)) (by simp)
        | some u =>
          rcases hO b with z | ⟨ob, xs, z⟩
          · rw [q] at z; cases z
          · have z2 := un.frzs b ob _ z
            obtain ⟨e1, _⟩ := hok b _ z
            obtain ⟨e2, _⟩ := hok' b _ z2
            rw [e] at e1; cases e1
            exact e2
  cases hk : K.lookup a with
  | some o =>
    -- the script is one of the module's own objects
    have e := KX a o hk
    rw [ha] at e
    cases e
    refine core (fun _ => none) (fun _ => .inl rfl) (.inr ⟨_, vs.toArray, _, hk, rfl, rfl, rfl, by rw [List.size_toArray, lenV]; exact hl, by simpa using rv⟩) (fun b u z => by have z' : (none : Option HO) = some u := z; cases z') (fun b z => absurd rfl z) fun z => absurd rfl z
  | none =>
    refine core (fun b => if b = a then some (.frz { cls := .type "list", data := .seq vs.toArray } (.lst (ns.map V.int))) else none) (fun b => ?_) (.inl (.inr ⟨{ cls := .type "list", data := .seq vs.toArray }, if_pos rfl⟩)) (fun b u z => ?_) (fun b z => ?_) fun _ => hk
    · by_cases hb : b = a
      · exact .inr ⟨_, _, if_pos hb⟩
      · exact .inl (if_neg hb)
    · by_cases hb : b = a
      · have z' := (if_pos hb).symm.trans z
        cases z'
        subst hb
        exact ⟨ha, by rw [List.length_map]; exact hl, vs, _, rv, ha⟩
      · have z' := (if_neg hb).symm.trans z
        cases z'
    · by_cases hb : b = a
      · exact hb
      · exact absurd (if_neg hb) z
end L2

namespace L2
open PySem PySem.Spec PyProof.Rows


theorem walk_of {l : PySem.W.OpenLaw} {n k : Nat} {q : Program} {loose : List Str} {XP : (Str → Option Value) → Heap → Prop} {YP : World → Heap → Prop} {d : DefRec} {K : Params → PySem.W.Frag} {CX : World → CXT} {sp : World → Sp} {x : Str}
    (hn : l.most = some n) (hn2 : n ≤ sizeLine) (hdf : d.params.defaults = []) (hr : Room k callerA)
    (hY : ∀ (w : World) (h : Heap), YP w h → (K w.params).In h)
    (F : ∀ (w : World) (mg : Str → Option Value) (fa : Addr) (h : Heap), (K w.params).In h → h.Ns mainGlobals mg → mg d.name = some (.ref fa) →
      ∃ fd : FuncData, (∀ (s : Shared) (u : Value), BindsTo s fd ⟨[u], []⟩ [(x, u)]) ∧
        ∀ base : Heap, (K w.params).In base → base.Ns mainGlobals mg → FnOk l.prog w (K w.params) mg base (CX w) k fa fd [x] (sp w))
    (hsp : ∀ (w : World) (H : Hp) (a : Addr) (ns : List Int), ns.length ≤ n → Only H → SqL (K w.params) H a (ns.map V.int) → sp w [.ref a] H (fun v _ => v = .bl true) fun _ _ _ => False)
    (hCX : ∀ (w : World) (H : Hp) (s : Shared) (e : Value) (s' : Shared), CX w [] H s (fun _ _ _ => False) e s' → False) :
    PySem.W.WalkO q loose XP YP l.row.toRowW d [] (fun f vs => PySem.call f vs) := by
  refine Att.attach_call hn hdf fun w s₀ s₁ mg mb fa o pm cd doc a vs ns G Y ho hd hcd hmg hobj hints hlen hg => ?_
  have KX := hY w _ Y
  obtain ⟨fd, hb, hF⟩ := F w mg fa _ KX G.T.g hmg
  exact law_call KX G.T.g G.T.b G.T.builtins G.T.nolimit hg hobj hints (Nat.le_trans hlen hn2) hr hF hb (fun H hO hS => hsp w H a ns hlen hO hS) fun H e s' => hCX w H s₁ e s'
end L2


namespace L2
open PySem PySem.Spec PyProof.Rows

def defArgs (s : Stmt) : Arguments := match s with
  | .FunctionDef _ a _ _ _ _ _ _ _ _ => a
  | _ => { posonlyargs := [], args := [], vararg := none, kwonlyargs := [], kw_defaults := [], kwarg := none, defaults := [] }
def defBody (s : Stmt) : List Stmt := match s with
  | .FunctionDef _ _ b _ _ _ _ _ _ _ => b
  | _ => []
def defScope (s : Stmt) : Scope := match s with
  | .FunctionDef _ _ _ _ _ _ sc _ _ _ => sc
  | _ => { kind := .function, names := [], isGenerator := false, isCoroutine := false }

abbrev CX0 : CXT := fun _ _ _ _ _ _ => False
abbrev E0 : XK := fun _ _ _ => False
theorem pass0 {X : Cx} : Passes CX0 X E0 := fun _ _ _ _ _ _ _ h => h.elim

structure Fun (K : PySem.W.Frag) (x qual : Str) (st : Stmt) (f : Addr) (fd : FuncData) : Prop where
  ex : ∃ (oc : Value) (od : Option Addr) (kV doc pm : Value) (an : Option Addr) (cdv ct : Value) (osl : Array (Option Value)),
    fd = PySem.W.fnOf x qual (defArgs st) (defBody st) (defScope st) .none kV doc pm an cdv ct ∧ K.lookup f = some ⟨oc, od, .func fd, osl⟩ ∧ PySem.W.codeIn K cdv qual = true
  kp : PySem.W.keepIn K (.ref f) = true
section
variable {P : Program} {w : World} {K : PySem.W.Frag} {mg : Str → Option Value} {base : Heap}
theorem Fun.ok {x qual : Str} {st : Stmt} {f : Addr} {fd : FuncData} {N ps : List Str} {k : Nat} {sp : Sp} (F : Fun K x qual st f fd) (S : FnScope N ps (defScope st)) (len : ∀ vs H Q E, sp vs H Q E → vs.length = ps.length)
    (hbody : ∀ (cdv : Value) (A : Around) (outer : List Env) (s : Shared) (H : Hp) (vs : List V) (Q : VK) (E : XK), Room k (A.deeper (envOfC qual (defScope st) s.heap.objs.size f cdv)) → sp vs H Q E →
      ∃ t, PSs (cxOf CX0 P w K mg base N qual (defScope st) f cdv A outer s H E).nox (defBody st) t ∧ t { nx := fun _ H' => Q .non H', rt := Q } (start N vs) H) : FnOk P w K mg base CX0 (k + 1) f fd ps sp := by
  obtain ⟨oc, od, kV, doc, pm, an, cdv, ct, osl, rfl, lk, hcd⟩ := F.ex
  refine fn_of lk hcd S len fun A outer s H vs Q E hr hsp => ?_
  obtain ⟨t, h, q⟩ := hbody cdv A outer s H vs Q E hr hsp
  exact ⟨t, h.nox, q⟩
theorem Fun.binds {x qual : Str} {st : Stmt} {f : Addr} {fd : FuncData} {ps : List Str} (F : Fun K x qual st f fd)
    (h : ∀ (kV doc pm : Value) (an : Option Addr) (cdv ct : Value) (us : List Value), us.length = ps.length → bindArgs (PySem.W.fnOf x qual (defArgs st) (defBody st) (defScope st) .none kV doc pm an cdv ct) ⟨us, []⟩ = pure (ps.zip us)) : Binds K fd ps [] := by
  obtain ⟨oc, od, kV, doc, pm, an, cdv, ct, osl, rfl, lk, hcd⟩ := F.ex
  exact .all (h kV doc pm an cdv ct)
theorem fun_mk {x qual : Str} {st : Stmt} {f : Addr} {oc : Value} {od an : Option Addr} {osl : Array (Option Value)} {kV doc pm cdv ct : Value} (l : K.lookup f = some ⟨oc, od, .func (PySem.W.fnOf x qual (defArgs st) (defBody st) (defScope st) .none kV doc pm an cdv ct), osl⟩)
    (c : PySem.W.codeIn K cdv qual = true) (k : PySem.W.keepIn K (.ref f) = true) : Fun K x qual st f (PySem.W.fnOf x qual (defArgs st) (defBody st) (defScope st) .none kV doc pm an cdv ct) := ⟨⟨oc, od, kV, doc, pm, an, cdv, ct, osl, rfl, l, c⟩, k⟩
end
theorem small1000 {n : Nat} (h : n ≤ 1000) : n < sizeLine := Nat.lt_of_le_of_lt h (by decide)

section
variable {X : Cx}
theorem pv (i : Nat) {x : Str} {pos : Pos} (hN : X.N[i]? = some x := by rfl) (hv : Vis X.env.scope x := by first | exact Or.inl rfl | exact Or.inr (Or.inl rfl) | exact Or.inr (Or.inr rfl)) (hd : (x == ("__debug__" : Str)) = false := by decide)
    (hcd : (x == ("__classdict__" : Str)) = false := by decide) : PE X (.Name x pos) (tVar i) := pe_var hN hv hd hcd
end

theorem iteF {A B : Prop} (h : B) : if false = true then A else B := by
  rw [if_neg Bool.false_ne_true]
  exact h
theorem iteT {A B : Prop} (h : A) : if true = true then A else B := by
  rw [if_pos rfl]
  exact h
theorem ite2 {c A B : Prop} [Decidable c] (h1 : c → A) (h2 : ¬ c → B) : if c then A else B := by
  by_cases h : c
  · rw [if_pos h]
    exact h1 h
  · rw [if_neg h]
    exact h2 h

def Same (H H' : Hp) : Prop := ∀ b o, H b = some o → H' b = some o
theorem Same.refl (H : Hp) : Same H H := fun _ _ h => h
theorem Same.trans {H H1 H2 : Hp} (a : Same H H1) (b : Same H1 H2) : Same H H2 := fun c o h => b c o (a c o h)
theorem Same.free {H H' : Hp} (e : Same H H') {l : Addr} (h : H' l = Option.none) : H l = Option.none := by
  cases q : H l with
  | none => rfl
  | some o =>
    rw [e l o q] at h
    cases h
theorem Same.seq {K : PySem.W.Frag} {H H' : Hp} {a : Addr} {xs : List V} (e : Same H H') (h : SqL K H a xs) : SqL K H' a xs := by
  rcases h with (h | ⟨o, h⟩) | h
  · exact .inl (.inl (e _ _ h))
  · exact .inl (.inr ⟨o, e _ _ h⟩)
  · exact .inr h

end L2

namespace L3
open PySem PySem.Spec PyProof.Rows L2

theorem b_abs : bootBuiltins "abs" = some (.builtin "abs") := by decide +kernel
theorem b_len : bootBuiltins "len" = some (.builtin "len") := by decide +kernel
theorem b_max : bootBuiltins "max" = some (.builtin "max") := by decide +kernel
theorem b_min : bootBuiltins "min" = some (.builtin "min") := by decide +kernel
theorem b_isinstance : bootBuiltins "isinstance" = some (.builtin "isinstance") := by decide +kernel
theorem b_all : bootBuiltins "all" = some (.builtin "all") := by decide +kernel
theorem b_int : bootBuiltins "int" = some (.type "int") := by decide +kernel
theorem b_bool : bootBuiltins "bool" = some (.type "bool") := by decide +kernel
theorem b_tuple : bootBuiltins "tuple" = some (.type "tuple") := by decide +kernel
theorem b_list : bootBuiltins "list" = some (.type "list") := by decide +kernel

def TyV (K : PySem.W.Frag) (H : Hp) (x : V) (T : String) : Prop := match x with
  | .non => T = "NoneType"
  | .bl _ => T = "bool"
  | .int _ => T = "int"
  | .str _ => T = "str"
  | .ref a => (T = "tuple" ∧ ∃ xs, SqT K H a xs) ∨ (T = "list" ∧ ∃ xs, SqL K H a xs) ∨ (T = "dict" ∧ ∃ kvs, H a = some (.dK kvs))
  | _ => False
section
variable {X : Cx} {a b c : Expr} {ta tb tc : TE} {pos : Pos}
def rIsi (K : PySem.W.Frag) : List V → Hp → VK → Prop := fun xs H Q => ∃ x T t k, xs = [x, .ty T] ∧ TyV K H x t ∧ PySem.W.kitOne K (.type t) (.type T) = some k ∧ Q (.bl k) H
theorem call_isi : CallR X (.builtin "isinstance") (rIsi X.K) := by
  intro pins s σ H xs us Q I r h
  obtain ⟨x, T, t, k, rfl, ty, e, q⟩ := h
  obtain ⟨u, w', rfl, rx, rt⟩ := vals2 r
  cases (show w' = Value.type T from rt)
  have fin : ∀ tk, EP X pins σ Q (.bool k) { s with toks := tk } := fun tk => ⟨.bl k, H, I.tok _, rfl, q⟩
  cases x with
  | non => cases (show t = "NoneType" from ty); exact isinst_ok I rx .non e fin
  | bl y => cases (show t = "bool" from ty); exact isinst_ok I rx (.bl y) e fin
  | int i => cases (show t = "int" from ty); exact isinst_ok I rx (.int i) e fin
  | str y => cases (show t = "str" from ty); exact isinst_ok I rx (.str y) e fin
  | byt y => exact ty.elim
  | flt y => exact ty.elim
  | ty y => exact ty.elim
  | ref a =>
    cases (show u = Value.ref a from rx)
    rcases ty with ⟨rfl, xs, hq⟩ | ⟨rfl, xs, hq⟩ | ⟨rfl, kvs, hq⟩
    · obtain ⟨its, _, ⟨o, h1, h2, _⟩, _⟩ := I.tuple hq
      exact PySem.W.kia_one PySem.W.kitx_tuple I.kIn ⟨o, h1, h2⟩ e (fun z => nomatch z) fin
    · obtain ⟨its, _, pl, _⟩ := I.list hq
      obtain ⟨o, h1, h2, _⟩ := pl.isList
      exact PySem.W.kia_one PySem.W.kitx_list I.kIn ⟨o, h1, h2⟩ e (fun z => nomatch z) fin
    · exact isinst_ok (x := V.ref a) I (show RelV (.ref a) (.ref a) from rfl) (.dK hq) e fin

theorem pe_tyn {x : Str} {T : String} {pos : Pos} (hg : Gl X x) (hm : X.mg x = none) (hv : bootBuiltins x = some (.type T)) (hn : x ≠ "__name__" := by decide) (hd : (x == ("__debug__" : Str)) = false := by decide) : PE X (.Name x pos) (tC (.ty T)) :=
  pe_bltn hg hm hv (show RelV (.ty T) (Value.type T) from rfl) hn hd
theorem op_mulG : OpR X (binaryOp .Mult) (rI IntMulOk fun i j => .int (i * j)) := opI fun _ _ _ _ _ _ _ hc q => mul_int q hc
def CDivL (i j : Int) : Prop := 0 < j ∧ j < 2 ^ 200
theorem CDivL.py {i j : Int} (h : CDivL i j) : Builtin.divisionGoesByPylong i j = false := by
  refine PyProof.noPylong_of_log2 ?_
  obtain ⟨h1, h2⟩ := h
  have h0 : j.natAbs ≠ 0 := by omega
  have h3 : j.natAbs < 2 ^ 200 := by
    have : (j.natAbs : Int) = j := by omega
    have h4 : ((j.natAbs : Nat) : Int) < ((2 ^ 200 : Nat) : Int) := by rw [this]; exact h2
    exact Int.ofNat_lt.mp h4
  exact Nat.lt_of_lt_of_le ((Nat.log2_lt h0).mpr h3) (by decide)
theorem op_fdivL : OpR X (binaryOp .FloorDiv) (rI CDivL fun i j => .int (i / j)) := opI fun i j _ _ _ _ _ hc q => by
  have := hc.1
  refine floordiv_int (by omega) ?_ (.inl hc.py)
  rw [Int.fdiv_eq_ediv_of_nonneg i (by omega)]
  exact q
def RepI (i : Int) : Prop := i.natAbs.log2 < 1920
end

def Callee (P : Program) (w : World) (K : PySem.W.Frag) (mg : Str → Option Value) (base : Heap) (k : Nat) (x : Str) (ps : List Str) (sp : Sp) : Prop :=
  ∃ (f : Addr) (fd : FuncData), FnOk P w K mg base CX0 k f fd ps sp ∧ Binds K fd ps [] ∧ PySem.W.keepIn K (.ref f) = true ∧ mg x = some (.ref f)
theorem Callee.mono {P : Program} {w : World} {K : PySem.W.Frag} {mg : Str → Option Value} {base : Heap} {j k : Nat} {x : Str} {ps : List Str} {sp : Sp} (C : Callee P w K mg base j x ps sp) (h : j ≤ k) : Callee P w K mg base k x ps sp := by
  obtain ⟨f, fd, F, b, kp, m⟩ := C
  exact ⟨f, fd, F.mono h, b, kp, m⟩
section
variable {X : Cx} {k : Nat} {ps : List Str} {sp : Sp} {x : Str} {p pos : Pos} {e : Expr} {es : List Expr} {t : TA}
theorem pe_callC (C : Callee X.prog X.w X.K X.mg X.base k x ps sp) (hr : Room k X.A) (hg : Gl X x)
    (ha : PA X (e :: es) t) (hdb : (x == ("__debug__" : Str)) = false := by decide) (he : starEach (e :: es) X.env = (false, eval e X.env) :: starEach es X.env := by rfl) (hpl : (backTo pos (starEach es X.env)).any (·.1) = false := by rfl) :
    PE X (.Call (.Name x p) (e :: es) [] pos) (tCall sp [] E0 t) := by
  obtain ⟨f, fd, F, b, kp, m⟩ := C
  exact pe_call F hr hg m kp b .nil pass0 ha hdb he hpl
end

structure Grow (m : List Addr) (H H' : Hp) : Prop where
  keep : ∀ b o, b ∉ m → H b = some o → H' b = some o
  tup : ∀ b xs, H b = some (.tup xs) → H' b = some (.tup xs)
  frz : ∀ b o u, H b = some (.frz o u) → H' b = some (.frz o u)
theorem Grow.refl (m : List Addr) (H : Hp) : Grow m H H := ⟨fun _ _ _ h => h, fun _ _ h => h, fun _ _ _ h => h⟩
theorem Grow.trans {m : List Addr} {H H1 H2 : Hp} (a : Grow m H H1) (b : Grow m H1 H2) : Grow m H H2 :=
  ⟨fun c o n h => b.keep c o n (a.keep c o n h), fun c xs h => b.tup c xs (a.tup c xs h), fun c o u h => b.frz c o u (a.frz c o u h)⟩
theorem Grow.new {m : List Addr} {H : Hp} {p : Addr} (h : H p = none) (o : HO) : Grow m H (upd H p o) :=
  ⟨fun b u _ q => by rw [upd_ne (ne_of_none q h)]; exact q, fun b xs q => by rw [upd_ne (ne_of_none q h)]; exact q, fun b u v q => by rw [upd_ne (ne_of_none q h)]; exact q⟩
theorem Grow.set {m : List Addr} {H : Hp} {p : Addr} {xs : List V} (h : H p = some (.lst xs)) (hm : p ∈ m) (ys : List V) : Grow m H (upd H p (.lst ys)) :=
  ⟨fun b u hb q => by rw [upd_ne (show b ≠ p from fun z => hb (by rw [z]; exact hm))]; exact q, fun b zs q => by rw [upd_ne (fun z => by subst z; rw [h] at q; cases q)]; exact q, fun b u v q => by rw [upd_ne (fun z => by subst z; rw [h] at q; cases q)]; exact q⟩
theorem Grow.mono {m m' : List Addr} {H H' : Hp} (a : Grow m H H') (h : ∀ b ∈ m, b ∈ m') : Grow m' H H' := ⟨fun b o n q => a.keep b o (fun z => n (h b z)) q, a.tup, a.frz⟩
theorem Grow.same {H H' : Hp} (a : Grow [] H H') : Same H H' := fun b o h => a.keep b o (by simp) h
theorem Grow.sqT {m : List Addr} {H H' : Hp} (g : Grow m H H') {K : PySem.W.Frag} {a : Addr} {xs : List V} (h : SqT K H a xs) : SqT K H' a xs := by
  rcases h with (h | ⟨o, h⟩) | h
  · exact .inl (.inl (g.tup _ _ h))
  · exact .inl (.inr ⟨o, g.frz _ _ _ h⟩)
  · exact .inr h
theorem Grow.free {H H' : Hp} {m : List Addr} (g : Grow m H H') {l : Addr} (hm : l ∉ m) (h : H' l = none) : H l = none := by
  cases q : H l with
  | none => rfl
  | some o => rw [g.keep l o hm q] at h; cases h
def Scr (K : PySem.W.Frag) (H : Hp) (a : Addr) (ns : List Int) : Prop :=
  (∃ o, H a = some (.frz o (.lst (ns.map V.int)))) ∨
    ∃ (o : Obj) (its : Array Value) (n : Nat), K.lookup a = some o ∧ o.cls = .type "list" ∧ o.dict = none ∧ o.data = .seq its n ∧ its.size ≤ sizeLine ∧ Vals (ns.map V.int) its.toList
theorem Scr.sq {K : PySem.W.Frag} {H : Hp} {a : Addr} {ns : List Int} (h : Scr K H a ns) : SqL K H a (ns.map V.int) := by
  rcases h with ⟨o, h⟩ | h
  · exact .inl (.inr ⟨o, h⟩)
  · exact .inr h
theorem Scr.of {K : PySem.W.Frag} {H : Hp} {a : Addr} {ns : List Int} (hO : Only H) (h : SqL K H a (ns.map V.int)) : Scr K H a ns := by
  rcases h with (h | ⟨o, h⟩) | h
  · rcases hO a with z | ⟨o, xs, z⟩
    · rw [h] at z; cases z
    · rw [h] at z; cases z
  · exact .inl ⟨o, h⟩
  · exact .inr h
theorem Grow.scr {m : List Addr} {H H' : Hp} (g : Grow m H H') {K : PySem.W.Frag} {a : Addr} {ns : List Int} (h : Scr K H a ns) : Scr K H' a ns := by
  rcases h with ⟨o, h⟩ | h
  · exact .inl ⟨o, g.frz _ _ _ h⟩
  · exact .inr h
end L3

namespace L3
open PySem PySem.Spec PyProof.Rows L2

structure Blt (mg : Str → Option Value) : Prop where
  abs : mg "abs" = none
  len : mg "len" = none
  max : mg "max" = none
  min : mg "min" = none
  divmod : mg "divmod" = none
  repr : mg "repr" = none
  isinstance : mg "isinstance" = none
  all : mg "all" = none
  range : mg "range" = none
  int : mg "int" = none
  bool : mg "bool" = none
  str : mg "str" = none
  tuple : mg "tuple" = none
  list : mg "list" = none
  dict : mg "dict" = none

def sp1 (b : V → Hp → VK → Prop) : Sp := fun vs H Q _ => ∃ x, vs = [x] ∧ b x H Q
def sp2 (b : V → V → Hp → VK → Prop) : Sp := fun vs H Q _ => ∃ x y, vs = [x, y] ∧ b x y H Q
def sp3 (b : V → V → V → Hp → VK → Prop) : Sp := fun vs H Q _ => ∃ x y z, vs = [x, y, z] ∧ b x y z H Q
theorem sp1_len {b : V → Hp → VK → Prop} {p : Str} : ∀ vs H Q E, sp1 b vs H Q E → vs.length = [p].length := fun vs H Q E h => by
  obtain ⟨x, rfl, _⟩ := h; rfl
theorem sp2_len {b : V → V → Hp → VK → Prop} {p q : Str} : ∀ vs H Q E, sp2 b vs H Q E → vs.length = [p, q].length := fun vs H Q E h => by
  obtain ⟨x, y, rfl, _⟩ := h; rfl
theorem sp3_len {b : V → V → V → Hp → VK → Prop} {p q r : Str} : ∀ vs H Q E, sp3 b vs H Q E → vs.length = [p, q, r].length := fun vs H Q E h => by
  obtain ⟨x, y, z, rfl, _⟩ := h; rfl

def wholeV : V → Bool
  | .int _ => true
  | _ => false
def endV : V → Bool
  | .non => true
  | .int _ => true
  | _ => false
def Kn (K : PySem.W.Frag) (H : Hp) (x : V) : Prop := ∃ T, TyV K H x T
structure Deed where
  add : Int
  lo : Option Int
  hi : Option Int
  deriving DecidableEq
def ov : Option Int → V
  | none => .non
  | some i => .int i
def Deed.vs (d : Deed) : List V := [.int d.add, ov d.lo, ov d.hi]
def Deed.Ok (d : Deed) : Prop := ∀ l h, d.lo = some l → d.hi = some h → l < h ∨ (l = h ∧ d.add = 0)
def clampLo (lo : Option Int) (r : Int) : Int := match lo with
  | none => r
  | some l => if l > r then l else r
def clampHi (hi : Option Int) (r : Int) : Int := match hi with
  | none => r
  | some h => if h < r then h else r
def Deed.mk' (d : Deed) (v : Int) : Int := clampHi d.hi (clampLo d.lo (v + d.add))
def ordV : V → V → V → Bool
  | .int a, .int l, .int h => decide (l < h) || (decide (l = h) && decide (a = 0))
  | _, _, _ => true
def tupDeed : List V → Bool
  | [x, y, z] => wholeV x && (endV y && (endV z && ordV x y z))
  | _ => false
theorem tupDeed_ok {d : Deed} (h : d.Ok) : tupDeed d.vs = true := by
  obtain ⟨a, lo, hi⟩ := d
  cases lo with
  | none => cases hi <;> rfl
  | some l =>
    cases hi with
    | none => rfl
    | some u =>
      have := h l u rfl rfl
      show (decide (l < u) || (decide (l = u) && decide (a = 0))) = true
      rcases this with q | ⟨q, q2⟩
      · simp [q]
      · have q2' : a = 0 := q2
        simp [q, q2']
theorem whole_int {x : V} (h : wholeV x = true) : ∃ i, x = .int i := by
  cases x <;> first | exact ⟨_, rfl⟩ | cases h
theorem end_ov {x : V} (h : endV x = true) : ∃ o, x = ov o := by
  cases x <;> first | exact ⟨none, rfl⟩ | exact ⟨some _, rfl⟩ | cases h
theorem len3 {xs : List V} (h : xs.length = 3) : ∃ x y z, xs = [x, y, z] := by
  match xs, h with
  | [x, y, z], _ => exact ⟨x, y, z, rfl⟩
theorem tupDeed_len {xs : List V} (h : xs.length ≠ 3) : tupDeed xs = false := by
  match xs, h with
  | [], _ => rfl
  | [_], _ => rfl
  | [_, _], _ => rfl
  | [_, _, _], h => exact absurd rfl h
  | _ :: _ :: _ :: _ :: _, _ => rfl
def DeedAt (K : PySem.W.Frag) (H : Hp) (x : V) (d : Deed) : Prop := ∃ a, x = .ref a ∧ SqT K H a d.vs
theorem Grow.deed {m : List Addr} {H H' : Hp} (g : Grow m H H') {K : PySem.W.Frag} {x : V} {d : Deed} (h : DeedAt K H x d) : DeedAt K H' x d := by
  obtain ⟨a, e, h⟩ := h
  exact ⟨a, e, g.sqT h⟩
theorem kn_int {K : PySem.W.Frag} {H : Hp} {i : Int} : Kn K H (.int i) := ⟨"int", rfl⟩
theorem kn_non {K : PySem.W.Frag} {H : Hp} : Kn K H .non := ⟨"NoneType", rfl⟩
theorem kn_ov {K : PySem.W.Frag} {H : Hp} (o : Option Int) : Kn K H (ov o) := by cases o; exact kn_non; exact kn_int

def sp_is_whole (K : PySem.W.Frag) : Sp := sp1 fun x H Q => Kn K H x ∧ Q (.bl (wholeV x)) H
def sp_is_end (K : PySem.W.Frag) : Sp := sp1 fun x H Q => Kn K H x ∧ Q (.bl (endV x)) H
def sp_is_deed (K : PySem.W.Frag) : Sp := sp1 fun x H Q => (∃ T, T ≠ "tuple" ∧ TyV K H x T ∧ Q (.bl false) H) ∨ ∃ a xs, x = .ref a ∧ SqT K H a xs ∧ (∀ y ∈ xs, Kn K H y) ∧ Q (.bl (tupDeed xs)) H
def sp_need_value (_ : PySem.W.Frag) : Sp := sp1 fun x H Q => ∃ i, x = .int i ∧ Q .non H
def sp_need_deed (K : PySem.W.Frag) : Sp := sp1 fun x H Q => ∃ d, DeedAt K H x d ∧ d.Ok ∧ Q .non H
def sp_made (K : PySem.W.Frag) : Sp := sp2 fun x y H Q => ∃ d v, DeedAt K H x d ∧ y = .int v ∧ Q (.int (d.mk' v)) H
def sp_done (K : PySem.W.Frag) : Sp := sp2 fun x y H Q => ∃ d v, DeedAt K H x d ∧ d.Ok ∧ y = .int v ∧ Q (.int (d.mk' v)) H

def Pot (H : Hp) (a : Addr) : Prop := ∃ p0 p1 : Int, H a = some (.lst [.int p0, .int p1]) ∧ 0 ≤ p0
def Sm (n : Int) : Prop := -(10 ^ 30) < n ∧ n < 10 ^ 30
def Deed.Sm (d : Deed) : Prop := L3.Sm d.add ∧ (∀ l, d.lo = some l → L3.Sm l) ∧ ∀ h, d.hi = some h → L3.Sm h
def sp_pot (K : PySem.W.Frag) : Sp := sp2 fun x y H Q => ∃ a ns k, x = .ref a ∧ y = .int k ∧ Scr K H a ns ∧ 0 ≤ k ∧ k < 1000 ∧ ∀ p H', H p = none → Grow [] H H' → Pot H' p → Q (.ref p) H'
theorem Sm.of {n : Int} (h1 : -(10 ^ 30) < n) (h2 : n < 10 ^ 30) : Sm n := ⟨h1, h2⟩
def sp_law (K : PySem.W.Frag) : Sp := sp1 fun x H Q => ∃ a ns, x = .ref a ∧ Scr K H a ns ∧ ns.length ≤ 63 ∧ ∀ H', Q (.bl true) H'
theorem look_ok : Deed.Ok ⟨0, none, none⟩ := fun l h z => by cases z
theorem szl {n : Nat} (h : Nat.ble n 1000 = true) : n ≤ sizeLine := Nat.le_of_lt (small1000 (Nat.le_of_ble_eq_true h))
theorem Grow.shrink {H H' : Hp} {l : Addr} (h : H l = none) (g : Grow [l] H H') : Grow [] H H' :=
  ⟨fun b o _ q => g.keep b o (fun z => by rw [List.mem_singleton.mp z] at q; rw [h] at q; cases q) q, g.tup, g.frz⟩
theorem Grow.wk {m : List Addr} {H H' : Hp} (g : Grow [] H H') : Grow m H H' := g.mono (by simp)
theorem Pot.grow {H H' : Hp} {a : Addr} (p : Pot H a) (g : Grow [] H H') : Pot H' a := by
  obtain ⟨u0, u1, hu, hn⟩ := p
  exact ⟨u0, u1, g.keep _ _ (by simp) hu, hn⟩
theorem Pot.new {H : Hp} {a l : Addr} (p : Pot H a) (hl : H l = none) (o : HO) : Pot (upd H l o) a := p.grow (Grow.new hl o)
theorem bits200 {k : Int} (h : -(2 ^ 200) < k ∧ k < 2 ^ 200) : Builtin.Int.intBits k ≤ 200 := PySem.intBits_le_iff.mpr (by
  have h1 : ((k.natAbs : Nat) : Int) < ((2 ^ 200 : Nat) : Int) := by
    have e : ((2 ^ 200 : Nat) : Int) = 2 ^ 200 := rfl
    rw [e]; obtain ⟨a, b⟩ := h; omega
  exact Int.ofNat_lt.mp h1)
theorem mulOk {i j : Int} (h1 : -(2 ^ 200) < i ∧ i < 2 ^ 200) (h2 : -(2 ^ 200) < j ∧ j < 2 ^ 200) : IntMulOk i j := PySem.IntMulOk.of_le (bits200 h1) (bits200 h2) (by decide)
theorem mulOkR {i j : Int} (h2 : -(2 ^ 60) < j ∧ j < 2 ^ 60) : IntMulOk i j := PySem.IntMulOk.of_right (Nat.le_trans ((PySem.intBits_le_iff (m := 60)).mpr (by obtain ⟨a, b⟩ := h2; omega)) (by decide))
end L3

namespace L3
open PySem PySem.Spec PyProof.Rows L2

section
variable {prog : Program} {w : World} {A : Around} {R : Result → Shared → Prop} {s : Shared}
theorem comp_loop {elt target iter : Expr} {ifs : List Expr} {scope : Scope} {pos : Pos} {it acc : Value} {env : Env} (I : Nat → Shared → Prop)
    (turn : ∀ n s, I n s → wpAny (model prog w) A (pyNext it) (fun r s₁ => match r with
      | none => R (.ok .next) s₁
      | some v => wpAny (model prog w) A (letOwnedTupleGo target it v) (fun _ s₂ => wpAny (model prog w) A (assign target env v) (fun _ s₃ =>
          wpAny (model prog w) A (forIn ifs true fun c r => if r = true then do let ok ← isTrue c env (eval c env); pure (ForInStep.yield ok) else pure (ForInStep.yield r)) (fun ok s₄ =>
            if ok = true then wpAny (model prog w) A (eval elt env) (fun x s₅ =>
              wpAny (model prog w) A (call (.builtin "list.append") [acc, x]) (fun _ s₆ => ∃ m, m < n ∧ I m s₆) (fun _ _ => False) s₅) (fun _ _ => False) s₄
            else ∃ m, m < n ∧ I m s₄) (fun _ _ => False) s₃) (fun _ _ => False) s₂) (fun _ _ => False) s₁) (fun _ _ => False) s)
    (n : Nat) (h : I n s) :
    codeAny (model prog w) A (.compLoop (.ListComp elt [⟨target, iter, ifs, 0⟩] scope pos) 0 it acc env) R s := by
  refine codeAny_loop rfl I (fun n s hI => ?_) n h
  show wpAny _ A ((compTurn (.ListComp elt [⟨target, iter, ifs, 0⟩] scope pos) 0 it acc env).onRaise (fun x => do noteFrame x env; theTreesLotGoes x)) _ _ s
  refine wpAny_noted ?_
  rw [compTurn_list]
  have no : ∀ (E : Value → Shared → Prop) (e : Value) (s : Shared), (fun (_ : Value) (_ : Shared) => False) e s → E e s := fun _ _ _ f => f.elim
  refine wpAny_bind (wpAny_standAt (wpAny_bind (wpAny_mono (turn n s hI) (fun r s₁ h₁ => ?_) (no _))))
  cases r with
  | none => exact wpAny_pure h₁
  | some v =>
    refine wpAny_bind (wpAny_mono h₁ (fun _ s₂ h₂ => ?_) (no _))
    refine wpAny_bind (wpAny_mono h₂ (fun _ s₃ h₃ => wpAny_bind (wpAny_mono h₃ (fun ok s₄ h₄ => ?_) (no _))) (no _))
    cases ok with
    | true =>
      simp only [if_true] at h₄ ⊢
      exact wpAny_bind (wpAny_bind (wpAny_mono h₄ (fun x s₅ h₅ => wpAny_bind (wpAny_mono h₅ (fun _ s₆ h₆ => wpAny_pure (wpAny_pure ⟨rfl, h₆⟩)) (no _))) (no _)))
    | false =>
      simp only [Bool.false_eq_true, if_false] at h₄ ⊢
      first
        | exact wpAny_bind (wpAny_pure (wpAny_pure ⟨rfl, h₄⟩))
        | exact wpAny_pure ⟨rfl, h₄⟩
end

theorem closure_ok {scope : Scope} {env : Env} (hfree : ∀ y ∈ scope.names, y.2 = .free → ∃ c, env.cells.lookup y.1 = some c) :
    ∃ cl, closureFor scope env = pure cl ∧ (∀ x c, cl.lookup x = some c → env.cells.lookup x = some c) ∧ ∀ y ∈ scope.names, y.2 = .free → ∃ c, cl.lookup y.1 = some c := by
  have key : ∀ (l : List (Str × NameKind)) (cs : List (Str × Addr)), (∀ y ∈ l, y.2 = .free → ∃ c, env.cells.lookup y.1 = some c) → (∀ x c, cs.lookup x = some c → env.cells.lookup x = some c) →
      ∃ cl, (forIn l cs (fun (x : Str × NameKind) r => do if x.2 == .free then do let c ← cellOf env x.1; pure (ForInStep.yield ((x.1, c) :: r)) else pure (ForInStep.yield r)) : Sem (List (Str × Addr))) = pure cl ∧
        (∀ x c, cl.lookup x = some c → env.cells.lookup x = some c) ∧ (∀ y ∈ l, y.2 = .free → ∃ c, cl.lookup y.1 = some c) ∧ ∀ x c, cs.lookup x = some c → ∃ c', cl.lookup x = some c' := by
    intro l
    induction l with
    | nil => intro cs _ h2; exact ⟨cs, rfl, h2, fun y hy => absurd hy (by simp), fun x c h => ⟨c, h⟩⟩
    | cons y r ih =>
      intro cs h1 h2
      obtain ⟨n, k⟩ := y
      by_cases hk : k = .free
      · subst hk
        obtain ⟨c, hc⟩ := h1 (n, .free) (by simp) rfl
        have hc' : env.cells.lookup n = some c := hc
        have e0 : cellOf env n = pure c := by unfold cellOf; rw [hc']
        obtain ⟨cl, e, p1, p2, p3⟩ := ih ((n, c) :: cs) (fun z hz => h1 z (List.mem_cons_of_mem _ hz)) (fun x d h => by
          by_cases hx : x = n
          · subst hx
            rw [List.lookup_cons_self] at h
            cases h; exact hc'
          · rw [List.lookup_cons, beq_eq_false_iff_ne.mpr hx] at h
            exact h2 x d h)
        refine ⟨cl, ?_, p1, fun z hz => ?_, fun x d h => ?_⟩
        · rw [List.forIn_cons]
          simp only [beq_self_eq_true, if_true, e0, pure_bind]
          exact e
        · rcases List.mem_cons.mp hz with rfl | hz
          · intro _
            exact p3 n c List.lookup_cons_self
          · exact p2 z hz
        · by_cases hx : x = n
          · subst hx; exact p3 x c List.lookup_cons_self
          · exact p3 x d (by rw [List.lookup_cons, beq_eq_false_iff_ne.mpr hx]; exact h)
      · have hb : (k == NameKind.free) = false := beq_eq_false_iff_ne.mpr hk
        obtain ⟨cl, e, p1, p2, p3⟩ := ih cs (fun z hz => h1 z (List.mem_cons_of_mem _ hz)) h2
        refine ⟨cl, ?_, p1, fun z hz => ?_, p3⟩
        · rw [List.forIn_cons]
          simp only [hb, Bool.false_eq_true, if_false, pure_bind]
          exact e
        · rcases List.mem_cons.mp hz with rfl | hz
          · intro h; exact absurd h hk
          · exact p2 z hz
  obtain ⟨cl, e, p1, p2, _⟩ := key scope.names [] hfree (fun x c h => by cases h)
  refine ⟨cl, ?_, p1, p2⟩
  unfold closureFor
  first
    | (rw [show (forIn scope.names [] _ : Sem (List (Str × Addr))) = pure cl from e]; rfl)
    | (simp only [bind_pure]; exact e)
    | exact e
end L3

namespace L3
open PySem PySem.Spec PyProof.Rows L2

def PIfs (X : Cx) (ifs : List Expr) (t : TT) : Prop :=
  ∀ (pins : List (Addr × Obj)) (s : Shared) (σ : L2.St) (H : Hp) (Q : Bool → Hp → Prop), Inv X pins σ H s → t σ H Q →
    wpAny (model X.prog X.w) X.A (forIn ifs true fun c r => if r = true then do let ok ← isTrue c X.env (eval c X.env); pure (ForInStep.yield ok) else pure (ForInStep.yield r)) (TP X pins σ Q) X.xe s
def tTrue : TT := fun _ H Q => Q true H
theorem pifs_nil {X : Cx} : PIfs X [] tTrue := fun pins s σ H Q I h => wpAny_pure ⟨H, I, h⟩

abbrev cxC (X : Cx) (N' : List Str) (scope : Scope) (cl : List (Str × Addr)) (C D : Addr) (fp : List Addr) (s : Shared) (H : Hp) : Cx :=
  { X with N := N', s₀ := s, H₀ := H, env := compEnvC scope cl C X.env, outer := X.stack, ex := D :: fp, fn := fun _ => false, xe := fun _ _ => False }
def capt (sub : List (Option Nat)) (σ : L2.St) : L2.St := sub.map fun o => match o with
  | none => none
  | some i => (match σ[i]? with | some v => v | none => none)
def CompW (J : It) (σ0 : L2.St) (H1 : Hp) (g : TG) (tt : TT) (te : TE) (Q : VK) : Prop :=
  ∃ W : Nat → Nat → List V → L2.St → Hp → Prop, (∃ m, W 0 m [] σ0 H1) ∧ ∀ i m ys σ' H', W i m ys σ' H' →
    (J.stop i H' ∧ ∀ l, H' l = none → Q (.ref l) (upd H' l (.lst ys))) ∨
    (J.go i H' ∧ ∃ Nn : List V → L2.St → Hp → Prop, (∀ zs σ2 H2, Nn zs σ2 H2 → ∃ m', m' < m ∧ W (i + 1) m' zs σ2 H2) ∧
      ∀ x H2, J.yld i H' x H2 → g x σ' H2 fun σ2 H3 => tt σ2 H3 fun b H4 => if b = true then te σ2 H4 fun y H5 => ys.length < sizeLine ∧ Nn (ys ++ [y]) σ2 H5 else Nn ys σ2 H4)
def tComp (wi : TI) (sub : List (Option Nat)) (g : TG) (tt : TT) (te : TE) : TE := fun σ H Q => wi σ H fun J H1 => CompW J (capt sub σ) H1 g tt te Q
structure CSc (X : Cx) (scope : Scope) (N' : List Str) (sub : List (Option Nat)) : Prop where
  free : ∀ y ∈ scope.names, y.2 = .free → X.env.kindOf y.1 = some .cell
  nocell : ∀ y ∈ scope.names, y.2 ≠ .cell
  kind : scope.kind = .function
  names : ∀ y ∈ scope.names, y.2 = .local → scope.names.lookup y.1 = some .local
  len : sub.length = N'.length
  cap : ∀ (j : Nat) (y : Str) (i : Nat), N'[j]? = some y → sub[j]? = some (some i) → X.N[i]? = some y ∧ X.env.scope.names.lookup y = some .cell ∧ scope.names.lookup y = some .free

theorem HOk.track {P : Program} {w : World} {H : Hp} {h : Heap} {a : Addr} {o : HO} (x : HOk P w H h) (hn : H a = none) (new : ObjOk P w (upd H a o) h a o) : HOk P w (upd H a o) h := fun b u e => by
  by_cases hb : b = a
  · subst hb; rw [upd_same] at e; cases e; exact new
  · rw [upd_ne hb] at e
    exact (x b u e).stay (fun c v _ q => q) (fun c q => by rw [upd_ne (ne_of_none q hn)]; exact q) fun c xs q => by rw [upd_ne (ne_of_none q hn)]; exact q
theorem relabel_lookup {scope : Scope} {env : Env} {y : Str} {k : NameKind} (h : (relabel scope env).names.lookup y = some k) :
    ∃ k', scope.names.lookup y = some k' ∧ (k = k' ∨ (k = .cell ∧ k' = .free)) := by
  have key : ∀ l : List (Str × NameKind), (l.map fun (n, k) => if (k == NameKind.free && env.scope.kind == .function && env.kindOf n == some .cell) then (n, NameKind.cell) else (n, k)).lookup y = some k →
      ∃ k', l.lookup y = some k' ∧ (k = k' ∨ (k = .cell ∧ k' = .free)) := by
    intro l
    induction l with
    | nil => intro h; cases h
    | cons p r ih =>
      obtain ⟨n, k0⟩ := p
      intro h
      rw [List.map_cons] at h
      by_cases hc : (k0 == NameKind.free && env.scope.kind == .function && env.kindOf n == some .cell) = true
      · have hf : k0 = .free := by
          simp only [Bool.and_eq_true, beq_iff_eq] at hc
          exact hc.1.1
        dsimp only at h
        rw [if_pos hc, List.lookup_cons] at h
        rw [List.lookup_cons]
        cases hx : y == n with
        | true => rw [hx] at h; cases h; exact ⟨k0, rfl, .inr ⟨rfl, hf⟩⟩
        | false => rw [hx] at h; exact ih h
      · dsimp only at h
        rw [if_neg hc, List.lookup_cons] at h
        rw [List.lookup_cons]
        cases hx : y == n with
        | true => rw [hx] at h; cases h; exact ⟨_, rfl, .inl rfl⟩
        | false => rw [hx] at h; exact ih h
  exact key scope.names h
theorem relabel_cell {scope : Scope} {env : Env} {y : Str} (hk : env.scope.kind = .function) (hc : env.kindOf y = some .cell) (h : scope.names.lookup y = some .free) : (relabel scope env).names.lookup y = some .cell := by
  have key : ∀ l : List (Str × NameKind), l.lookup y = some .free → (l.map fun (n, k) => if (k == NameKind.free && env.scope.kind == .function && env.kindOf n == some .cell) then (n, NameKind.cell) else (n, k)).lookup y = some .cell := by
    intro l
    induction l with
    | nil => intro h; cases h
    | cons p r ih =>
      obtain ⟨n, k0⟩ := p
      intro h
      rw [List.map_cons]
      rw [List.lookup_cons] at h
      dsimp only
      cases hx : y == n with
      | true =>
        rw [hx] at h
        cases h
        have e : y = n := by simpa using hx
        subst e
        rw [if_pos (by simp [hk, hc]), List.lookup_cons, hx]
      | false =>
        rw [hx] at h
        by_cases hc2 : (k0 == NameKind.free && env.scope.kind == .function && env.kindOf n == some .cell) = true
        · rw [if_pos hc2, List.lookup_cons, hx]; exact ih h
        · rw [if_neg hc2, List.lookup_cons, hx]; exact ih h
  exact key scope.names h
section
variable {X : Cx} {pins : List (Addr × Obj)} {σ : L2.St} {H2 : Hp} {s₂ : Shared} {it : Addr} {fp : List Addr} {tn : Nat → Heap → Prop} {J : It} {scope : Scope} {cl : List (Str × Addr)} {N' : List Str} {sub : List (Option Nat)}
theorem comp_start {h₁ : Heap} {tk : Nat} (I : Inv X pins σ H2 s₂) (S : CSc X scope N' sub) (hcl1 : ∀ x c, cl.lookup x = some c → X.env.cells.lookup x = some c) (hcl2 : ∀ y ∈ scope.names, y.2 = .free → ∃ c, cl.lookup y.1 = some c)
    (f2 : ∀ b ∈ fp, FpOk X pins H2 b) (hfp : ∀ b ∈ fp, b < s₂.heap.objs.size) {m : Str → Option Value} {ob : Obj}
    (hns : h₁.Ns (s₂.heap.objs.size + 1) m) (hk : ∀ b o, (s₂.heap.push ob).get? b = some o → h₁.get? b = some o) :
    Inv (cxC X N' scope cl (s₂.heap.objs.size + 1) s₂.heap.objs.size fp { s₂ with heap := s₂.heap.push ob } H2) pins (capt sub σ) H2 { s₂ with heap := h₁, toks := tk } := by
  have old : ∀ b o, s₂.heap.get? b = some o → (s₂.heap.push ob).get? b = some o := fun b o e => Heap.get?_push_of_some _ e
  have old2 : ∀ b o, s₂.heap.get? b = some o → h₁.get? b = some o := fun b o e => hk b o (old b o e)
  have sz : (s₂.heap.push ob).objs.size = s₂.heap.objs.size + 1 := Heap.size_push ..
  have cells : ∀ x c, cl.lookup x = some c → c < s₂.heap.objs.size := fun x c e => let ⟨v, q⟩ := I.cell x c (hcl1 x c e); q.lt
  have has : ∀ x, ((relabel scope X.env).names.lookup x = some .cell ∨ (relabel scope X.env).names.lookup x = some .free) → ∃ c, cl.lookup x = some c := fun x hx => by
    rcases hx with hx | hx
    · obtain ⟨k', e, z⟩ := relabel_lookup hx
      rcases z with z | ⟨_, z⟩
      · subst z; exact absurd rfl (S.nocell _ (PySem.mem_of_lookup e))
      · subst z; exact hcl2 _ (PySem.mem_of_lookup e) rfl
    · obtain ⟨k', e, z⟩ := relabel_lookup hx
      rcases z with z | ⟨z, _⟩
      · subst z; exact hcl2 _ (PySem.mem_of_lookup e) rfl
      · cases z
  have frsz : ∀ b ∈ frs X.stack, b < s₂.heap.objs.size := fun b hb => by
    rcases List.mem_cons.mp (I.stkSub b hb) with z | z
    · rw [z]; exact I.lt
    · exact Nat.lt_of_not_le fun q => I.nofs q z
  refine
    { ok :=
      { mod := I.ok.mod, kind := S.kind, glob := I.ok.glob, blt := I.ok.blt
        above := by show (s₂.heap.push ob).objs.size ≤ s₂.heap.objs.size + 1; rw [sz]; exact Nat.le_refl _
        inj := fun x y c h1 h2 => I.ok.inj x y c (hcl1 x c h1) (hcl1 y c h2)
        has := has
        cab := fun x c z => by cases z
        hd := I.ok.hd, frames := I.ok.frames, stk := .inl rfl
        exf := fun b hb => ?exf
        bs := fun b o e => ⟨old b o (I.bk b o e), (I.bs b o e).2⟩
        bsz := by show X.base.objs.size ≤ (s₂.heap.push ob).objs.size; rw [sz]; exact Nat.le_succ_of_le (Nat.le_trans I.ok.bsz I.sz)
        noex := fun b o e hb => ?noex
        exfs := fun b hb => ?exfs
        funs := ?funs
        frf := I.stkFree }
      os := rfl, bare := I.bare, base := Un.kept fun b u e => hk b u e
      loc := ⟨m, hns, ?loc⟩
      cell := fun x c e => ?cell
      free := I.hok.fresh (Nat.le_succ _)
      freeC := fun x c e => I.freeC x c (hcl1 x c e)
      pin := fun p hp => ?pin
      hok := I.hok.kept old2
      len := ?len }
  case exf =>
    rcases List.mem_cons.mp hb with rfl | hb
    · exact ⟨Nat.ne_of_lt (Nat.lt_succ_self _), fun x c e => Nat.ne_of_lt (cells x c e)⟩
    · exact ⟨Nat.ne_of_lt (Nat.lt_succ_of_lt (hfp b hb)), fun x c e => (f2 b hb).2.2.2.2.1 x c (hcl1 x c e)⟩
  case noex =>
    have hl : b < X.s₀.heap.objs.size := Nat.lt_of_lt_of_le (Heap.lt_size e) I.ok.bsz
    rcases List.mem_cons.mp hb with rfl | hb
    · exact absurd (Nat.lt_of_lt_of_le hl I.sz) (Nat.lt_irrefl _)
    · rcases (f2 b hb).2.2.2.1 with z | z
      · exact I.ok.noex b o e z
      · exact absurd (Nat.lt_of_lt_of_le hl z) (Nat.lt_irrefl _)
  case exfs =>
    intro hs
    rcases List.mem_cons.mp hb with rfl | hb
    · exact absurd (frsz _ hs) (Nat.lt_irrefl _)
    · rcases List.mem_cons.mp (I.stkSub b hs) with z | z
      · exact (f2 b hb).2.1 z
      · exact (f2 b hb).2.2.1 z
  case funs => exact Heap.FunFrames.of_keeps (fun b o e _ => ⟨o, old b o e, rfl⟩) I.stack
  case loc =>
    intro j y v hj hv hvis
    obtain ⟨mX, _, lX⟩ := I.loc
    unfold capt at hv
    rw [List.getElem?_map] at hv
    cases hs : sub[j]? with
    | none => rw [hs] at hv; cases hv
    | some o =>
      rw [hs] at hv
      cases o with
      | none => cases hv
      | some i =>
        obtain ⟨hN, hc, hf⟩ := S.cap j y i hj hs
        have hv' : σ[i]? = some (some v) := by
          have z : (match σ[i]? with | some v => v | none => none) = some v := Option.some.inj hv
          cases q : σ[i]? with
          | none => rw [q] at z; cases z
          | some w => rw [q] at z; rw [show w = some v from z]
        obtain ⟨u, ru, hl⟩ := lX i y v hN hv' (.inr (.inl hc))
        refine ⟨u, ru, ?_⟩
        have kc : (relabel scope X.env).names.lookup y = some .cell := relabel_cell I.ok.kind hc hf
        rcases hl with ⟨z, _⟩ | ⟨_, c, e, ic⟩
        · have z' : X.env.scope.names.lookup y = some .local := z
          rw [hc] at z'; cases z'
        · obtain ⟨c', e'⟩ := hcl2 _ (PySem.mem_of_lookup hf) rfl
          have := hcl1 _ _ e'
          rw [e] at this; cases this
          refine .inr ⟨.inl kc, c, e', ?_⟩
          obtain ⟨oc, h1, h2⟩ := ic
          exact ⟨oc, old2 _ _ h1, h2⟩
  case cell =>
    obtain ⟨v, oc, h1, h2⟩ := I.cell x c (hcl1 x c e)
    exact ⟨v, oc, old2 _ _ h1, h2⟩
  case pin =>
    obtain ⟨p1, p2, p3, p4, p5⟩ := I.pin p hp
    refine ⟨old2 _ _ p1, p2, Nat.ne_of_lt (Nat.lt_succ_of_lt (Heap.lt_size p1)), fun hs => ?_, p5⟩
    rcases List.mem_cons.mp (I.stkSub _ hs) with z | z
    · exact p3 z
    · exact p4 z
  case len =>
    show (capt sub σ).length = N'.length
    unfold capt
    rw [List.length_map]; exact S.len
theorem comp_fin {C D : Addr} {s₀ : Shared} {s' : Shared} {σ' : L2.St} {H' : Hp} {ys : List V} {us : List Value} {k : Nat} {oC : Obj} (I : Inv X pins σ H2 s₂)
    (hs₀ : ∀ b o, s₂.heap.get? b = some o → s₀.heap.get? b = some o) (hos : s₀.os = s₂.os) (hD : s₂.heap.objs.size ≤ D) (hC : s₂.heap.objs.size ≤ C) (hDC : D ≠ C) (f2 : ∀ b ∈ fp, FpOk X pins H2 b)
    (I' : Inv (cxC X N' scope cl C D fp s₀ H2) pins σ' H' s') (hn : H' D = none) (hy : s'.heap.get? D = some { cls := .type "list", data := .seq us.toArray k }) (rv : Vals ys us) (hz : ys.length ≤ sizeLine)
    (ho : s'.heap.get? C = some oC) (hd : ∀ v, oC.data ≠ .cell v) : Inv X (pins ++ [(C, oC)]) σ (upd H' D (.lst ys)) s' ∧ FpOk X pins (upd H' D (.lst ys)) C := by
  have neD : ∀ b o, s₂.heap.get? b = some o → b ≠ D := fun b o e => Nat.ne_of_lt (Nat.lt_of_lt_of_le (Heap.lt_size e) hD)
  have nm : ∀ b o, s₂.heap.get? b = some o → b ∉ fp → b ∉ D :: fp := fun b o e h z => (List.mem_cons.mp z).elim (neD b o e) h
  have U := I'.base
  have HC : upd H' D (.lst ys) C = none := by rw [upd_ne (Ne.symm hDC)]; exact I'.free
  have fpc : FpOk X pins (upd H' D (.lst ys)) C := I.fpOk hC HC
  have un : Un (frs X.stack) fp H2 (upd H' D (.lst ys)) s₂.heap s'.heap :=
    { keep := fun b o e n h1 h2 => U.keep b o (hs₀ b o e) n h1 (nm b o e h2)
      slot := fun b o e n h1 h2 => U.slot b o (hs₀ b o e) n h1 (nm b o e h2)
      free := fun b o e n h2 => by rw [upd_ne (neD b o e)]; exact U.free b o (hs₀ b o e) n (nm b o e h2)
      there := fun b o e h2 => U.there b o (hs₀ b o e) (nm b o e h2)
      tups := fun b xs e => by have z := U.tups b xs e; rw [upd_ne (ne_of_none z hn)]; exact z
      frzs := fun b o u e => by have z := U.frzs b o u e; rw [upd_ne (ne_of_none z hn)]; exact z
      tbls := fun b ps e => by obtain ⟨more, z⟩ := U.tbls b ps e; exact ⟨more, by rw [upd_ne (ne_of_none z hn)]; exact z⟩ }
  have hok : HOk X.prog X.w (upd H' D (.lst ys)) s'.heap := HOk.track I'.hok hn ⟨hz, us, k, rv, hy⟩
  have IX : Inv X pins σ (upd H' D (.lst ys)) s' := I.call' (I'.os.trans hos) un hok I'.bare fun b hb => ⟨(f2 b hb).2.2.2.1, (f2 b hb).2.1, (f2 b hb).2.2.2.2.1, (f2 b hb).2.2.2.2.2⟩
  refine ⟨IX.pins_of fun p hp => ?_, fpc⟩
  rcases List.mem_append.mp hp with hp | hp
  · exact IX.pin p (List.mem_append_right _ hp)
  · rw [List.mem_singleton.mp hp]
    exact ⟨ho, HC, fpc.2.1, fpc.2.2.1, hd⟩
end
section
variable {X : Cx} {scope : Scope} {N' : List Str} {sub : List (Option Nat)} {x : Str} {px pos : Pos} {elt iter : Expr} {ifs : List Expr} {wi : TI} {g : TG} {tt : TT} {te : TE}
theorem CSc.clos {pins : List (Addr × Obj)} {σ : L2.St} {H : Hp} {s : Shared} (S : CSc X scope N' sub) (I : Inv X pins σ H s) : ∃ cl, closureFor scope X.env = pure cl ∧ (∀ x c, cl.lookup x = some c → X.env.cells.lookup x = some c) ∧ ∀ y ∈ scope.names, y.2 = .free → ∃ c, cl.lookup y.1 = some c :=
  closure_ok fun y hy hf => I.ok.has y.1 (.inl (S.free y hy hf))
end
end L3

namespace L3
open PySem PySem.Spec PyProof.Rows L2

section
variable {X : Cx}
theorem isTuple_of {h : Heap} {a : Addr} {its : Array Value} (t : IsTup h a its) : h.IsTuple a its := t
end
section
variable {X : Cx} {pos : Pos}
theorem bools_are : ∀ {bs : List Bool} {us : List Value}, Vals (bs.map V.bl) us → LSm.BoolsAre us bs
  | [], _, .nil => .nil
  | b :: bs, _, .cons r t => by
    cases r
    exact .cons b (bools_are t)
theorem call_allB (hcalm : X.calm = true) : CallR X (.builtin "all") (fun xs H Q => ∃ (l : Addr) (bs : List Bool), xs = [.ref l] ∧ SqL X.K H l (bs.map V.bl) ∧ Q (.bl (bs.all id)) H) := by
  intro pins s σ H xs us Q I r h
  obtain ⟨l, bs, rfl, hl, q⟩ := h
  obtain ⟨u, rfl, rx⟩ := vals1 r
  cases (show u = Value.ref l from rx)
  obtain ⟨vs, rv, pl, _⟩ := I.list hl
  have hl' : s.heap.IsList l vs.toArray := pl.isList
  have hb : LSm.BoolsAre vs bs := bools_are rv
  have hlt : l < s.heap.objs.size := by obtain ⟨_, e, _⟩ := hl'; exact Heap.lt_size e
  refine call_all_walk (wpAny_pyIter_list hl' ?_)
  refine ⟨s.heap.objs.size, [s.heap.objs.size, l], [s.heap.objs.size], vs.toArray.size, _, _, fun i => (bs[i]?).getD true, rfl, Walks.list (A := X.A.in1) (I.ok.hd hcalm) _ l (Nat.ne_of_lt hlt) vs.toArray,
    ⟨⟨_, Heap.get?_push_size _ rfl, rfl, rfl⟩, hl'.push _⟩, fun i v s' Q' E' hP hQ => ?_, fun h' tk hk => ?_⟩
  · obtain ⟨b, e, rfl⟩ := hb.get i v (by simpa using hP)
    simp only [e, Option.getD_some] at hQ
    exact wpAny_truthy_bool hQ
  · have e : ((List.range vs.toArray.size).all fun i => (bs[i]?).getD true) = bs.all id := by
      have hlen : bs.length = vs.length := by rw [← rv.length, List.length_map]
      rw [List.size_toArray, ← hlen, Bool.eq_iff_iff, List.all_eq_true, List.all_eq_true]
      constructor
      · intro z b hb'
        obtain ⟨i, hi, rfl⟩ := List.getElem_of_mem hb'
        have := z i (List.mem_range.mpr hi)
        simpa [List.getElem?_eq_getElem hi] using this
      · intro z i hi
        have hi' := List.mem_range.mp hi
        simpa [List.getElem?_eq_getElem hi'] using z _ (List.getElem_mem hi')
    rw [e]
    exact ⟨.bl (bs.all id), H, I.kept (t' := tk) (h' := h') (LSm.kept_iter hk), rfl, q⟩
end
theorem CSc.of {X : Cx} {scope : Scope} {N' : List Str} {sub : List (Option Nat)} (sc : Scope) (NN : List Str) (e : X.env.scope = sc) (en : X.N = NN)
    (h : ((scope.names.all fun y => (y.2 != .free || sc.names.lookup y.1 == some .cell) && (y.2 != .cell) && (y.2 != .local || scope.names.lookup y.1 == some .local)) && (sub.length == N'.length) &&
      ((N'.zip sub).all fun p => match p.2 with | none => true | some i => NN[i]? == some p.1 && sc.names.lookup p.1 == some .cell && scope.names.lookup p.1 == some .free)) = true)
    (hk : scope.kind = .function) : CSc X scope N' sub := by
  rw [Bool.and_eq_true, Bool.and_eq_true] at h
  obtain ⟨⟨h1, h2⟩, h3⟩ := h
  have k1 := fun y hy => List.all_eq_true.mp h1 y hy
  refine ⟨fun y hy hf => ?_, fun y hy hc => ?_, hk, fun y hy hl => ?_, by simpa using h2, fun j y i hj hs => ?_⟩
  · have := k1 y hy
    simp only [hf, Bool.and_eq_true] at this
    have z := this.1.1
    show X.env.scope.names.lookup y.1 = _
    rw [e]; simpa using z
  · have := k1 y hy
    simp only [hc, Bool.and_eq_true] at this
    simp at this
  · have := k1 y hy
    simp only [hl, Bool.and_eq_true] at this
    simpa using this.2
  · have hm : (y, some i) ∈ N'.zip sub := by
      have : (N'.zip sub)[j]? = some (y, some i) := by
        rw [List.getElem?_zip_eq_some]; exact ⟨hj, hs⟩
      exact List.mem_of_getElem? this
    have := List.all_eq_true.mp h3 _ hm
    simp only [Bool.and_eq_true, beq_iff_eq] at this
    rw [e, en]
    exact ⟨this.1.1, this.1.2, this.2⟩
end L3

namespace L3
open PySem PySem.Spec PyProof.Rows L2
def tidyD (a : Int) (lo hi : Option Int) : Deed := if lo ≠ none ∧ lo = hi then ⟨0, lo, hi⟩ else ⟨a, lo, hi⟩
def thrO (e : Deed) (o : Option Int) (d : Option Int) : Option Int := match o with
  | none => d
  | some l => some (e.mk' l)
def joinD (d e : Deed) : Deed := tidyD (d.add + e.add) (thrO e d.lo e.lo) (thrO e d.hi e.hi)
def Deed.Bd (B : Int) (d : Deed) : Prop := (-B ≤ d.add ∧ d.add ≤ B) ∧ (∀ l, d.lo = some l → -B ≤ l ∧ l ≤ B) ∧ ∀ h, d.hi = some h → -B ≤ h ∧ h ≤ B
theorem mk_nn (a v : Int) : (Deed.mk a none none).mk' v = v + a := rfl
theorem mk_sn (a l v : Int) : (Deed.mk a (some l) none).mk' v = if l > v + a then l else v + a := rfl
theorem mk_ns (a h v : Int) : (Deed.mk a none (some h)).mk' v = if h < v + a then h else v + a := rfl
theorem mk_ss (a l h v : Int) : (Deed.mk a (some l) (some h)).mk' v = if h < (if l > v + a then l else v + a) then h else (if l > v + a then l else v + a) := rfl
theorem ok_le {a l h : Int} (o : Deed.Ok ⟨a, some l, some h⟩) : l < h ∨ (l = h ∧ a = 0) := o l h rfl rfl
theorem lowfar {B : Int} {d : Deed} (o : d.Ok) (b : d.Bd B) {v : Int} (hv : v ≤ -(4 * B)) (hB : 0 < B) : d.mk' v = (match d.lo with | some l => l | none => v + d.add) := by
  obtain ⟨a, lo, hi⟩ := d
  obtain ⟨⟨b1, b2⟩, b3, b4⟩ := b
  have b1' : -B ≤ a := b1
  have b2' : a ≤ B := b2
  cases lo with
  | none =>
    cases hi with
    | none => rfl
    | some h =>
      have := b4 h rfl
      rw [mk_ns]; show _ = v + a; rw [if_neg (by omega)]
  | some l =>
    have := b3 l rfl
    cases hi with
    | none => rw [mk_sn]; show _ = l; rw [if_pos (by omega)]
    | some h =>
      have q := ok_le o
      rw [mk_ss]; show _ = l; rw [if_pos (show l > v + a by omega), if_neg (by omega)]
theorem hifar {B : Int} {d : Deed} (o : d.Ok) (b : d.Bd B) {v : Int} (hv : 4 * B ≤ v) (hB : 0 < B) : d.mk' v = (match d.hi with | some h => h | none => v + d.add) := by
  obtain ⟨a, lo, hi⟩ := d
  obtain ⟨⟨b1, b2⟩, b3, b4⟩ := b
  have b1' : -B ≤ a := b1
  have b2' : a ≤ B := b2
  cases hi with
  | none =>
    cases lo with
    | none => rfl
    | some l =>
      have := b3 l rfl
      rw [mk_sn]; show _ = v + a; rw [if_neg (by omega)]
  | some h =>
    have := b4 h rfl
    cases lo with
    | none => rw [mk_ns]; show _ = h; rw [if_pos (by omega)]
    | some l =>
      have q := ok_le o
      have := b3 l rfl
      rw [mk_ss]; show _ = h; rw [if_neg (show ¬ l > v + a by omega), if_pos (by omega)]
def optA (o : Option Int) : Int := match o with | none => 0 | some i => (i.natAbs : Int)
def Deed.big (d : Deed) : Int := (d.add.natAbs : Int) + optA d.lo + optA d.hi + 1
theorem optA_nn (o : Option Int) : 0 ≤ optA o := by cases o with
  | none => exact Int.le_refl _
  | some i => show 0 ≤ (i.natAbs : Int); omega
theorem bd_big {d : Deed} {B : Int} (h : d.big ≤ B) : d.Bd B ∧ 0 < B := by
  obtain ⟨a, lo, hi⟩ := d
  have h' : (a.natAbs : Int) + optA lo + optA hi + 1 ≤ B := h
  have n1 := optA_nn lo
  have n2 := optA_nn hi
  refine ⟨⟨⟨?_, ?_⟩, fun l e => ?_, fun u e => ?_⟩, by omega⟩
  · show -B ≤ a; omega
  · show a ≤ B; omega
  · have e' : lo = some l := e
    subst e'
    have : optA (some l) = (l.natAbs : Int) := rfl
    omega
  · have e' : hi = some u := e
    subst e'
    have : optA (some u) = (u.natAbs : Int) := rfl
    omega
theorem ext_lo (l r : Int) : (if l > r then l else r) = max l r := by
  split <;> omega
theorem ext_hi (h r : Int) : (if h < r then h else r) = min h r := by
  split <;> omega
theorem ext_half {a a' l u : Int} (c : l < u) (h : ∀ v, (Deed.mk a (some l) (some u)).mk' v = (Deed.mk a' (some l) (some u)).mk' v) : a' ≤ a := by
  have m := h (l - a)
  rw [mk_ss, mk_ss, ext_lo, ext_hi, ext_lo, ext_hi, show l - a + a = l by omega, Int.max_self, Int.min_eq_right (Int.le_of_lt c)] at m
  rcases Int.lt_or_le a a' with d | d
  · exfalso
    rw [Int.max_eq_right (show l ≤ l - a + a' by omega)] at m
    rcases Int.le_total u (l - a + a') with z | z
    · rw [Int.min_eq_left z] at m; omega
    · rw [Int.min_eq_right z] at m; omega
  · exact d
theorem ext_ss {a a' l u : Int} (od : Deed.Ok ⟨a, some l, some u⟩) (oe : Deed.Ok ⟨a', some l, some u⟩) (h : ∀ v, (Deed.mk a (some l) (some u)).mk' v = (Deed.mk a' (some l) (some u)).mk' v) : a = a' := by
  rcases ok_le od with c | c
  · exact Int.le_antisymm (ext_half c fun v => (h v).symm) (ext_half c h)
  · rcases ok_le oe with d | d
    · exact Int.le_antisymm (ext_half d fun v => (h v).symm) (ext_half d h)
    · rw [c.2, d.2]
theorem deed_ext {d e : Deed} (od : d.Ok) (oe : e.Ok) (h : ∀ v, d.mk' v = e.mk' v) : d = e := by
  have n1 := optA_nn d.lo
  have n2 := optA_nn d.hi
  have n3 := optA_nn e.lo
  have n4 := optA_nn e.hi
  have k1 : 1 ≤ d.big := by unfold Deed.big; omega
  have k2 : 1 ≤ e.big := by unfold Deed.big; omega
  obtain ⟨bd, hB⟩ := bd_big (d := d) (B := d.big + e.big) (by omega)
  obtain ⟨be, hB2⟩ := bd_big (d := e) (B := d.big + e.big) (by omega)
  generalize d.big + e.big = B at bd be hB
  have l1 := (lowfar od bd (v := -(4 * B)) (Int.le_refl _) hB).symm.trans ((h _).trans (lowfar oe be (Int.le_refl _) hB))
  have l2 := (lowfar od bd (v := -(4 * B) - 1) (by omega) hB).symm.trans ((h _).trans (lowfar oe be (by omega) hB))
  have h1 := (hifar od bd (v := 4 * B) (Int.le_refl _) hB).symm.trans ((h _).trans (hifar oe be (Int.le_refl _) hB))
  have h2 := (hifar od bd (v := 4 * B + 1) (by omega) hB).symm.trans ((h _).trans (hifar oe be (by omega) hB))
  obtain ⟨a, lo, hi⟩ := d
  obtain ⟨a', lo', hi'⟩ := e
  cases lo <;> cases lo' <;> cases hi <;> cases hi' <;> simp only at l1 l2 h1 h2 <;> first
    | (exfalso; omega)
    | (have : a = a' := by omega
       subst this
       first | rfl | (have z := h1; subst z; rfl) | (have z := l1; subst z; rfl))
    | skip
  cases l1
  cases h1
  rw [ext_ss od oe h]
theorem ok_tidy {a : Int} {lo hi : Option Int} (h : ∀ l u, lo = some l → hi = some u → l ≤ u) : (tidyD a lo hi).Ok := by
  unfold tidyD
  split
  · rename_i c
    intro l u e1 e2
    have e1' : lo = some l := e1
    have e2' : hi = some u := e2
    right
    refine ⟨?_, rfl⟩
    have := c.2
    rw [e1', e2'] at this
    exact Option.some.inj this
  · rename_i c
    intro l u e1 e2
    have e1' : lo = some l := e1
    have e2' : hi = some u := e2
    left
    have := h l u e1' e2'
    have ne : l ≠ u := fun z => c ⟨by rw [e1']; simp, by rw [e1', e2', z]⟩
    omega
theorem tidy_mk {a : Int} {lo hi : Option Int} (v : Int) : (tidyD a lo hi).mk' v = (Deed.mk a lo hi).mk' v := by
  unfold tidyD
  split
  · rename_i c
    obtain ⟨c1, c2⟩ := c
    subst c2
    cases lo with
    | none => exact absurd rfl c1
    | some l =>
      rw [mk_ss, mk_ss]
      split <;> split <;> split <;> (try split) <;> omega
  · rfl
theorem cl_lo (l r : Int) : clampLo (some l) r = max l r := by
  show (if l > r then l else r) = _
  split <;> omega
theorem cl_hi (h r : Int) : clampHi (some h) r = min h r := by
  show (if h < r then h else r) = _
  split <;> omega
theorem cl_lo0 (r : Int) : clampLo none r = r := rfl
theorem cl_hi0 (r : Int) : clampHi none r = r := rfl
theorem max_mono {l x y : Int} (h : x ≤ y) : max l x ≤ max l y := by omega
theorem min_mono {l x y : Int} (h : x ≤ y) : min l x ≤ min l y := by omega
theorem mk_mono {d : Deed} {v w : Int} (h : v ≤ w) : d.mk' v ≤ d.mk' w := by
  obtain ⟨a, lo, hi⟩ := d
  have h' : v + a ≤ w + a := Int.add_le_add_right h a
  cases lo with
  | none =>
    cases hi with
    | none => exact h'
    | some u => simp only [Deed.mk', cl_hi, cl_lo0]; exact min_mono h'
  | some l =>
    cases hi with
    | none => simp only [Deed.mk', cl_lo, cl_hi0]; exact max_mono h'
    | some u => simp only [Deed.mk', cl_lo, cl_hi]; exact min_mono (max_mono h')
theorem joinD_ok {d e : Deed} (od : d.Ok) (oe : e.Ok) : (joinD d e).Ok := by
  refine ok_tidy fun l u e1 e2 => ?_
  obtain ⟨a, lo, hi⟩ := d
  obtain ⟨a', lo', hi'⟩ := e
  cases lo with
  | none =>
    have e1' : lo' = some l := e1
    subst e1'
    cases hi with
    | none =>
      have e2' : hi' = some u := e2
      subst e2'
      have := ok_le oe; omega
    | some h =>
      have e2' : (Deed.mk a' (some l) hi').mk' h = u := Option.some.inj e2
      subst e2'
      cases hi' with
      | none => rw [mk_sn]; split <;> omega
      | some h' =>
        have := ok_le oe
        rw [mk_ss]; (repeat' split) <;> omega
  | some l0 =>
    have e1' : (Deed.mk a' lo' hi').mk' l0 = l := Option.some.inj e1
    subst e1'
    cases hi with
    | none =>
      have e2' : hi' = some u := e2
      subst e2'
      cases lo' with
      | none => rw [mk_ns]; split <;> omega
      | some l' =>
        have := ok_le oe
        rw [mk_ss]; (repeat' split) <;> omega
    | some h =>
      have e2' : (Deed.mk a' lo' hi').mk' h = u := Option.some.inj e2
      subst e2'
      have := ok_le od
      exact mk_mono (by omega)
theorem mk_max {d : Deed} (x y : Int) : d.mk' (max x y) = max (d.mk' x) (d.mk' y) := by
  rcases Int.le_total x y with h | h
  · rw [Int.max_eq_right h, Int.max_eq_right (mk_mono h)]
  · rw [Int.max_eq_left h, Int.max_eq_left (mk_mono h)]
theorem mk_min {d : Deed} (x y : Int) : d.mk' (min x y) = min (d.mk' x) (d.mk' y) := by
  rcases Int.le_total x y with h | h
  · rw [Int.min_eq_left h, Int.min_eq_left (mk_mono h)]
  · rw [Int.min_eq_right h, Int.min_eq_right (mk_mono h)]
theorem mm_lo {F m W : Int} (h : m ≤ F) : max F W = max F (max m W) := by omega
theorem mm_hi {F u L : Int} (h : F ≤ u) : min F L = min F (min u L) := by omega
theorem mm_x {F u W : Int} (h : F ≤ u) : min u (max F W) = max F (min u W) := by omega
theorem mm_in {F G C W : Int} (h : C = W ∨ (W < C ∧ C ≤ F) ∨ (C < W ∧ F ≤ C ∧ G ≤ C)) : min G (max F W) = min G (max F C) := by
  rcases h with rfl | ⟨h1, h2⟩ | ⟨h1, h2, h3⟩
  · rfl
  · rw [Int.max_eq_left h2, Int.max_eq_left (Int.le_trans (Int.le_of_lt h1) h2)]
  · rw [Int.max_eq_right h2, Int.max_eq_right (Int.le_trans h2 (Int.le_of_lt h1)), Int.min_eq_left h3, Int.min_eq_left (Int.le_trans h3 (Int.le_of_lt h1))]
theorem cl_way {a : Int} {lo hi : Option Int} (o : ∀ l h, lo = some l → hi = some h → l ≤ h) (W : Int) :
    clampHi hi (clampLo lo W) = W ∨ (W < clampHi hi (clampLo lo W) ∧ ∀ x, clampHi hi (clampLo lo W) ≤ (Deed.mk a lo hi).mk' x) ∨ (clampHi hi (clampLo lo W) < W ∧ ∀ x, (Deed.mk a lo hi).mk' x ≤ clampHi hi (clampLo lo W)) := by
  cases lo with
  | none =>
    cases hi with
    | none => exact .inl rfl
    | some h =>
      simp only [Deed.mk', cl_hi, cl_lo0]
      rcases Int.le_total W h with c | c
      · exact .inl (Int.min_eq_right c)
      · rw [Int.min_eq_left c]
        rcases Int.lt_or_eq_of_le c with d | d
        · exact .inr (.inr ⟨d, fun x => Int.min_le_left _ _⟩)
        · exact .inl d
  | some l =>
    cases hi with
    | none =>
      simp only [Deed.mk', cl_lo, cl_hi0]
      rcases Int.le_total l W with c | c
      · exact .inl (Int.max_eq_right c)
      · rw [Int.max_eq_left c]
        rcases Int.lt_or_eq_of_le c with d | d
        · exact .inr (.inl ⟨d, fun x => Int.le_max_left _ _⟩)
        · exact .inl d.symm
    | some h =>
      have lh := o l h rfl rfl
      simp only [Deed.mk', cl_lo, cl_hi]
      rcases Int.lt_or_le W l with c | c
      · rw [Int.max_eq_left (Int.le_of_lt c), Int.min_eq_right lh]
        exact .inr (.inl ⟨c, fun x => Int.le_min.mpr ⟨lh, Int.le_max_left _ _⟩⟩)
      · rw [Int.max_eq_right c]
        rcases Int.lt_or_le h W with d | d
        · rw [Int.min_eq_left (Int.le_of_lt d)]
          exact .inr (.inr ⟨d, fun x => Int.min_le_left _ _⟩)
        · exact .inl (Int.min_eq_right d)
theorem joinD_mk {d e : Deed} (od : d.Ok) (oe : e.Ok) (v : Int) : (joinD d e).mk' v = e.mk' (d.mk' v) := by
  unfold joinD
  rw [tidy_mk]
  obtain ⟨a, lo, hi⟩ := d
  obtain ⟨a', lo', hi'⟩ := e
  have q2 : ∀ l h, lo' = some l → hi' = some h → l ≤ h := fun l h e1 e2 => by
    subst e1 e2
    rcases ok_le oe with z | z
    · exact Int.le_of_lt z
    · exact Int.le_of_eq z.1
  have ew : v + (a + a') = v + a + a' := (Int.add_assoc v a a').symm
  have ef : ∀ w, (Deed.mk a' lo' hi').mk' w = clampHi hi' (clampLo lo' (w + a')) := fun _ => rfl
  have fu : ∀ u, hi' = some u → ∀ w, (Deed.mk a' lo' hi').mk' w ≤ u := fun u e w => by
    rw [ef, e, cl_hi]; exact Int.min_le_left _ _
  have fm : ∀ m, lo' = some m → ∀ w, m ≤ (Deed.mk a' lo' hi').mk' w := fun m e w => by
    rw [ef, e, cl_lo]
    cases hi' with
    | none => exact Int.le_max_left _ _
    | some h => rw [cl_hi]; exact Int.le_min.mpr ⟨q2 m h e rfl, Int.le_max_left _ _⟩
  cases lo with
  | none =>
    cases hi with
    | none =>
      show clampHi hi' (clampLo lo' (v + (a + a'))) = clampHi hi' (clampLo lo' (v + a + a'))
      rw [ew]
    | some h =>
      show clampHi (some ((Deed.mk a' lo' hi').mk' h)) (clampLo lo' (v + (a + a'))) = (Deed.mk a' lo' hi').mk' (clampHi (some h) (v + a))
      rw [cl_hi, cl_hi, mk_min, ew, ef (v + a)]
      cases hi' with
      | none => rfl
      | some u => rw [cl_hi u]; exact mm_hi (fu u rfl h)
  | some l =>
    cases hi with
    | none =>
      show clampHi hi' (clampLo (some ((Deed.mk a' lo' hi').mk' l)) (v + (a + a'))) = (Deed.mk a' lo' hi').mk' (clampLo (some l) (v + a))
      rw [cl_lo, cl_lo, mk_max, ew, ef (v + a)]
      have g : max ((Deed.mk a' lo' hi').mk' l) (v + a + a') = max ((Deed.mk a' lo' hi').mk' l) (clampLo lo' (v + a + a')) := by
        cases lo' with
        | none => rfl
        | some m => rw [cl_lo]; exact mm_lo (fm m rfl l)
      rw [g]
      cases hi' with
      | none => rfl
      | some u => rw [cl_hi, cl_hi]; exact mm_x (fu u rfl l)
    | some h =>
      show clampHi (some ((Deed.mk a' lo' hi').mk' h)) (clampLo (some ((Deed.mk a' lo' hi').mk' l)) (v + (a + a'))) = (Deed.mk a' lo' hi').mk' (clampHi (some h) (clampLo (some l) (v + a)))
      rw [cl_hi, cl_lo, cl_hi, cl_lo, mk_min, mk_max, ew, ef (v + a)]
      refine mm_in ?_
      rcases cl_way (a := a') q2 (v + a + a') with z | z | z
      · exact .inl z
      · exact .inr (.inl ⟨z.1, z.2 l⟩)
      · exact .inr (.inr ⟨z.1, z.2 l, z.2 h⟩)
theorem joinD_assoc {a b c : Deed} (oa : a.Ok) (ob : b.Ok) (oc : c.Ok) : joinD (joinD a b) c = joinD a (joinD b c) :=
  deed_ext (joinD_ok (joinD_ok oa ob) oc) (joinD_ok oa (joinD_ok ob oc)) fun v => by
    rw [joinD_mk (joinD_ok oa ob) oc, joinD_mk oa ob, joinD_mk oa (joinD_ok ob oc), joinD_mk ob oc]
theorem look_mk (v : Int) : (Deed.mk 0 none none).mk' v = v := by rw [mk_nn]; omega
theorem joinD_look {a : Deed} (oa : a.Ok) : joinD a ⟨0, none, none⟩ = a :=
  deed_ext (joinD_ok oa look_ok) oa fun v => by rw [joinD_mk oa look_ok, look_mk]
theorem look_joinD {a : Deed} (oa : a.Ok) : joinD ⟨0, none, none⟩ a = a :=
  deed_ext (joinD_ok look_ok oa) oa fun v => by rw [joinD_mk look_ok oa, look_mk]
theorem Deed.Sm.bd {d : Deed} (h : d.Sm) : d.Bd (10 ^ 30) := by
  obtain ⟨⟨a1, a2⟩, h1, h2⟩ := h
  exact ⟨⟨by omega, by omega⟩, fun l e => by have := h1 l e; exact ⟨by have := this.1; omega, by have := this.2; omega⟩, fun l e => by have := h2 l e; exact ⟨by have := this.1; omega, by have := this.2; omega⟩⟩
end L3

namespace L3
open PySem PySem.Spec PyProof.Rows L2
theorem iteF' {c : Bool} {A B : Prop} (e : c = false) (h : B) : if c = true then A else B := by rw [e]; exact iteF h
theorem iteT' {c : Bool} {A B : Prop} (e : c = true) (h : A) : if c = true then A else B := by rw [e]; exact iteT h
theorem comp_tup {K : PySem.W.Frag} {a : Addr} {xs : List V} {g : TG} {tt : TT} {te : TE} {Q : VK} {σ : L2.St} {H : Hp} (Pv : Nat → List V → L2.St → Hp → Prop) (h0 : Pv 0 [] σ H) (hl : ∀ i ys σ H, i ≤ xs.length → Pv i ys σ H → SqT K H a xs)
    (hs : ∀ i x ys σ H, xs[i]? = some x → Pv i ys σ H → g x σ H fun σ2 H3 => tt σ2 H3 fun b H4 => if b = true then te σ2 H4 fun y H5 => ys.length < sizeLine ∧ Pv (i + 1) (ys ++ [y]) σ2 H5 else Pv (i + 1) ys σ2 H4)
    (hd : ∀ ys σ H, Pv xs.length ys σ H → ∀ l, H l = none → Q (.ref l) (upd H l (.lst ys))) :
    CompW (Itt K a) σ H g tt te Q := by
  refine ⟨fun i m ys σ H => m = xs.length - i ∧ i ≤ xs.length ∧ Pv i ys σ H, ⟨xs.length, by simp, Nat.zero_le _, h0⟩, ?_⟩
  rintro i m ys σ H ⟨rfl, hi, p⟩
  have q := hl i ys σ H hi p
  by_cases hlt : i < xs.length
  · refine .inr ⟨⟨xs, xs[i], q, by simp [hlt]⟩, Pv (i + 1), fun zs σ' H' p' => ⟨xs.length - (i + 1), by omega, rfl, hlt, p'⟩, fun x H' y => ?_⟩
    obtain ⟨e, y⟩ := y
    subst e
    exact hs i x ys σ _ (y xs q) p
  · have e : i = xs.length := by omega
    subst e
    exact .inl ⟨⟨xs, q, Nat.le_refl _⟩, hd ys σ H p⟩
theorem comp_list {K : PySem.W.Frag} {a : Addr} {xs : List V} {g : TG} {tt : TT} {te : TE} {Q : VK} {σ : L2.St} {H : Hp} (Pv : Nat → List V → L2.St → Hp → Prop) (h0 : Pv 0 [] σ H) (hl : ∀ i ys σ H, i ≤ xs.length → Pv i ys σ H → SqL K H a xs)
    (hs : ∀ i x ys σ H, xs[i]? = some x → Pv i ys σ H → g x σ H fun σ2 H3 => tt σ2 H3 fun b H4 => if b = true then te σ2 H4 fun y H5 => ys.length < sizeLine ∧ Pv (i + 1) (ys ++ [y]) σ2 H5 else Pv (i + 1) ys σ2 H4)
    (hd : ∀ ys σ H, Pv xs.length ys σ H → ∀ l, H l = none → Q (.ref l) (upd H l (.lst ys))) :
    CompW (Itl K a) σ H g tt te Q := by
  refine ⟨fun i m ys σ H => m = xs.length - i ∧ i ≤ xs.length ∧ Pv i ys σ H, ⟨xs.length, by simp, Nat.zero_le _, h0⟩, ?_⟩
  rintro i m ys σ H ⟨rfl, hi, p⟩
  have q := hl i ys σ H hi p
  by_cases hlt : i < xs.length
  · refine .inr ⟨⟨xs, xs[i], q, by simp [hlt]⟩, Pv (i + 1), fun zs σ' H' p' => ⟨xs.length - (i + 1), by omega, rfl, hlt, p'⟩, fun x H' y => ?_⟩
    obtain ⟨e, y⟩ := y
    subst e
    exact hs i x ys σ _ (y xs q) p
  · have e : i = xs.length := by omega
    subst e
    exact .inl ⟨⟨xs, q, Nat.le_refl _⟩, hd ys σ H p⟩
theorem ix_tupK {X : Cx} {K : PySem.W.Frag} (h : X.K = K) : IxR X (rIxT K) := by subst h; exact ix_tup
theorem ix_listK {X : Cx} {K : PySem.W.Frag} (h : X.K = K) : IxR X (rIxL K) := by subst h; exact ix_list
theorem tidy_n {a : Int} {hi : Option Int} : tidyD a none hi = ⟨a, none, hi⟩ := by simp [tidyD]
theorem tidy_e {a l : Int} : tidyD a (some l) (some l) = ⟨0, some l, some l⟩ := by simp [tidyD]
theorem tidy_u {a l : Int} {hi : Option Int} (h : some l ≠ hi) : tidyD a (some l) hi = ⟨a, some l, hi⟩ := by simp [tidyD, h]
def sp_tidy (_ : PySem.W.Frag) : Sp := sp3 fun x y z H Q => ∃ a lo hi, x = .int a ∧ y = ov lo ∧ z = ov hi ∧ ∀ t, H t = none → Q (.ref t) (upd H t (.tup (tidyD a lo hi).vs))
def sp_joined (K : PySem.W.Frag) : Sp := sp2 fun x y H Q => ∃ d e, DeedAt K H x d ∧ DeedAt K H y e ∧ ∀ t, H t = none → Q (.ref t) (upd H t (.tup (joinD d e).vs))
def sp_then (K : PySem.W.Frag) : Sp := sp2 fun x y H Q => ∃ d e, DeedAt K H x d ∧ DeedAt K H y e ∧ d.Ok ∧ e.Ok ∧ ∀ t, H t = none → Q (.ref t) (upd H t (.tup (joinD d e).vs))
theorem Deed.Bd.mono {d : Deed} {B C : Int} (b : d.Bd B) (h : B ≤ C) : d.Bd C := by
  obtain ⟨⟨b1, b2⟩, b3, b4⟩ := b
  exact ⟨⟨by omega, by omega⟩, fun l e => by have := b3 l e; omega, fun l e => by have := b4 l e; omega⟩
end L3

namespace L3
open PySem PySem.Spec PyProof.Rows L2
end L3

namespace L3
open PySem PySem.Spec PyProof.Rows L2
section
variable {X : Cx}
end
theorem Grow.sqL {H H' : Hp} (g : Grow [] H H') {K : PySem.W.Frag} {a : Addr} {xs : List V} (h : SqL K H a xs) : SqL K H' a xs := by
  rcases h with (h | ⟨o, h⟩) | h
  · exact .inl (.inl (g.keep _ _ (by simp) h))
  · exact .inl (.inr ⟨o, g.frz _ _ _ h⟩)
  · exact .inr h
section
variable {K : PySem.W.Frag} {a : Addr} {xs : List V} {n : Nat} {tt : TT} {te : TE} {Q : VK} {σ : L2.St} {H : Hp}
theorem filt_step {p : V → Bool} {f : V → V} {i : Nat} {x : V} (hx : xs[i]? = some x) : ((xs.take (i + 1)).filter p).map f = ((xs.take i).filter p).map f ++ (if p x = true then [f x] else []) := by
  rw [List.take_add_one, hx, List.filter_append, List.map_append]
  congr 1
  show ((([x] : List V)).filter p).map f = _
  by_cases c : p x = true
  · rw [if_pos c, List.filter_cons_of_pos c]; rfl
  · rw [if_neg c, List.filter_cons_of_neg c]; rfl
theorem filt_len {p : V → Bool} {f : V → V} {i : Nat} (h : xs.length ≤ 1000) : (((xs.take i).filter p).map f).length < sizeLine := by
  rw [List.length_map]
  refine small1000 ?_
  have := List.length_filter_le p (xs.take i)
  have := List.length_take_le i xs
  have : (xs.take i).length ≤ xs.length := by rw [List.length_take]; omega
  omega
theorem filt_fin {p : V → Bool} {f : V → V} : ((xs.take xs.length).filter p).map f = (xs.filter p).map f := by rw [List.take_length]
theorem comp_filtT (p : V → Bool) (f : V → V) (hl : SqT K H a xs) (hlen : xs.length ≤ 1000)
    (ht : ∀ x H' (R : Bool → Hp → Prop), x ∈ xs → Grow [] H H' → (∀ H2, Grow [] H' H2 → R (p x) H2) → tt (σ.set n (some x)) H' R)
    (hs : ∀ x H' (R : VK), x ∈ xs → p x = true → Grow [] H H' → (∀ H2, Grow [] H' H2 → R (f x) H2) → te (σ.set n (some x)) H' R)
    (hd : ∀ H' l, Grow [] H H' → H' l = none → Q (.ref l) (upd H' l (.lst ((xs.filter p).map f)))) : CompW (Itt K a) σ H (gName n) tt te Q := by
  refine comp_tup (xs := xs) (fun i ys σ' H' => Grow [] H H' ∧ (σ' = σ ∨ ∃ e, σ' = σ.set n e) ∧ ys = ((xs.take i).filter p).map f) ⟨Grow.refl _ _, .inl rfl, rfl⟩ ?_ ?_ ?_
  · rintro i ys σ' H' _ ⟨g, _⟩
    exact g.sqT hl
  · rintro i x ys σ' H' hx ⟨g, hσ, rfl⟩
    have e : σ'.set n (some x) = σ.set n (some x) := by
      rcases hσ with rfl | ⟨e, rfl⟩
      · rfl
      · rw [List.set_set]
    show tt (σ'.set n (some x)) H' _
    rw [e]
    refine ht x H' _ (List.mem_of_getElem? hx) g fun H2 g2 => ?_
    by_cases c : p x = true
    · rw [if_pos c]
      refine hs x H2 _ (List.mem_of_getElem? hx) c (g.trans g2) fun H3 g3 => ⟨filt_len hlen, (g.trans g2).trans g3, .inr ⟨_, rfl⟩, ?_⟩
      rw [filt_step hx, if_pos c]
    · rw [if_neg c]
      refine ⟨g.trans g2, .inr ⟨_, rfl⟩, ?_⟩
      rw [filt_step hx, if_neg c, List.append_nil]
  · rintro ys σ' H' ⟨g, _, rfl⟩ l hl
    rw [filt_fin]
    exact hd H' l g hl
theorem filt_all {p : V → Bool} (h : ∀ x, p x = true) : xs.filter p = xs := List.filter_eq_self.mpr fun x _ => h x
theorem comp_mapT (f : V → V) (hl : SqT K H a xs) (hlen : xs.length ≤ 1000)
    (hs : ∀ x H' (R : VK), x ∈ xs → Grow [] H H' → (∀ H2, Grow [] H' H2 → R (f x) H2) → te (σ.set n (some x)) H' R)
    (hd : ∀ H' l, Grow [] H H' → H' l = none → Q (.ref l) (upd H' l (.lst (xs.map f)))) : CompW (Itt K a) σ H (gName n) tTrue te Q :=
  comp_filtT (fun _ => true) f hl hlen (fun x H' R _ _ k => k H' (Grow.refl _ _)) (fun x H' R hx _ g k => hs x H' R hx g k) (fun H' l g hl => by rw [filt_all fun _ => rfl]; exact hd H' l g hl)
def vi (f : Int → Int) : V → V
  | .int i => .int (f i)
  | v => v
end
theorem nd {d e : Deed} (h : d = e) : (!decide (d = e)) = false := by rw [decide_eq_true h]; rfl
end L3

namespace L3
open PySem PySem.Spec PyProof.Rows L2
mutual
inductive Dat (K : PySem.W.Frag) (H : Hp) : V → PyData → Prop
  | non : Dat K H .non .none
  | bl (b : Bool) : Dat K H (.bl b) (.bool b)
  | int (i : Int) : Dat K H (.int i) (.int i)
  | tup {a : Addr} {xs : List V} {ds : List PyData} : SqT K H a xs → DatAll K H xs ds → Dat K H (.ref a) (.tuple ds)
  | lst {a : Addr} {xs : List V} {ds : List PyData} : SqL K H a xs → DatAll K H xs ds → Dat K H (.ref a) (.list ds)
inductive DatAll (K : PySem.W.Frag) (H : Hp) : List V → List PyData → Prop
  | nil : DatAll K H [] []
  | cons {x : V} {xs : List V} {d : PyData} {ds : List PyData} : Dat K H x d → DatAll K H xs ds → DatAll K H (x :: xs) (d :: ds)
end
section
variable {X : Cx} {pins : List (Addr × Obj)} {σ : L2.St} {H : Hp} {s : Shared}
mutual
theorem Dat.reads (I : Inv X pins σ H s) : ∀ {x : V} {d : PyData} {u : Value}, Dat X.K H x d → RelV x u → ∃ as, Reads s.heap u d as
  | _, _, u, .non, r => by
    cases (show u = Value.none from r)
    exact ⟨_, .none⟩
  | _, _, u, .bl b, r => by
    cases (show u = Value.bool b from r)
    exact ⟨_, .bool b⟩
  | _, _, u, .int i, r => by
    obtain ⟨t, rfl⟩ := r
    exact ⟨_, .int i t⟩
  | _, _, u, .tup (a := a) hs hd, r => by
    cases (show u = Value.ref a from r)
    obtain ⟨its, r1, ⟨o, e1, e2, n, e3⟩, _⟩ := I.tuple hs
    obtain ⟨as, q⟩ := DatAll.reads I hd r1
    exact ⟨_, .tuple e1 e2 e3 q⟩
  | _, _, u, .lst (a := a) hs hd, r => by
    cases (show u = Value.ref a from r)
    obtain ⟨its, r1, ⟨o, n, e1, e2, _, e3⟩, _⟩ := I.list hs
    obtain ⟨as, q⟩ := DatAll.reads I hd r1
    exact ⟨_, .list e1 e2 e3 q⟩
theorem DatAll.reads (I : Inv X pins σ H s) : ∀ {xs : List V} {ds : List PyData} {us : List Value}, DatAll X.K H xs ds → Vals xs us → ∃ as, ReadsAll s.heap us ds as
  | _, _, _, .nil, .nil => ⟨_, .nil⟩
  | _, _, _, .cons h t, .cons r rs => by
    obtain ⟨as, q⟩ := Dat.reads I h r
    obtain ⟨bs, q2⟩ := DatAll.reads I t rs
    exact ⟨_, .cons q q2⟩
end
end
mutual
/-- a bound of the text's length -/
def wtD : PyData → Nat
  | .list xs | .tuple xs => wtAll xs + 3
  | .int _ => 1921
  | .none | .bool _ => 5
  | _ => 20000000
def wtAll : List PyData → Nat
  | [] => 0
  | x :: xs => wtD x + 2 + wtAll xs
end
mutual
theorem shown_wt : ∀ {d : PyData}, d.showable = true → d.hasDict = false → wtD d ≤ 16777216 → d.shown.length ≤ wtD d
  | .none, _, _, _ => by decide
  | .bool b, _, _, _ => by cases b <;> decide
  | .int i, h, _, _ => int_text_len_1921 (of_decide_eq_true h)
  | .str _, _, _, z => absurd (show 20000000 ≤ 16777216 from z) (by decide)
  | .list xs, h, h2, z => by
    have z' : wtAll xs + 3 ≤ 16777216 := z
    have q := shown_wtAll (xs := xs) h h2 (by omega)
    have l := listText_len_le (PyData.shownAll xs)
    show (listText (PyData.shownAll xs)).length ≤ wtAll xs + 3
    omega
  | .tuple xs, h, h2, z => by
    have z' : wtAll xs + 3 ≤ 16777216 := z
    have q := shown_wtAll (xs := xs) h h2 (by omega)
    have l := tupleText_len_le (PyData.shownAll xs)
    show (tupleText (PyData.shownAll xs)).length ≤ wtAll xs + 3
    omega
  | .dict _, _, h, _ => by cases h
theorem shown_wtAll : ∀ {xs : List PyData}, PyData.showableAll xs = true → PyData.hasDictAll xs = false → wtAll xs ≤ 16777216 → ((PyData.shownAll xs).map (·.length)).sum + 2 * (PyData.shownAll xs).length ≤ wtAll xs
  | [], _, _, _ => by decide
  | x :: xs, h, h2, z => by
    have h' : (x.showable && PyData.showableAll xs) = true := h
    have h2' : (x.hasDict || PyData.hasDictAll xs) = false := h2
    rw [Bool.and_eq_true] at h'
    rw [Bool.or_eq_false_iff] at h2'
    have z' : wtD x + 2 + wtAll xs ≤ 16777216 := z
    have q1 := shown_wt (d := x) h'.1 h2'.1 (by omega)
    have q2 := shown_wtAll (xs := xs) h'.2 h2'.2 (by omega)
    show (x.shown.length :: (PyData.shownAll xs).map (·.length)).sum + 2 * ((PyData.shownAll xs).length + 1) ≤ wtD x + 2 + wtAll xs
    rw [List.sum_cons]
    omega
end
end L3

namespace L3
open PySem PySem.Spec PyProof.Rows L2
section
variable {X : Cx} {a b : Expr} {rest : List Expr} {ta tb : TE} {pos : Pos}
end
abbrev Span := Option (Option Int × Option Int)
def SpanAt (K : PySem.W.Frag) (H : Hp) (x : V) : Span → Prop
  | none => x = .non
  | some (l, h) => ∃ a, x = .ref a ∧ SqT K H a [ov l, ov h]
def I200 (i : Int) : Prop := -(2 ^ 300) < i ∧ i < 2 ^ 300
theorem repI2 {i : Int} (h : I200 i) : RepI i := by
  show i.natAbs.log2 < 1920
  by_cases h0 : i.natAbs = 0
  · rw [h0]; decide
  · exact Nat.lt_of_lt_of_le ((Nat.log2_lt h0).mpr (show i.natAbs < 2 ^ 300 by obtain ⟨a, b⟩ := h; omega)) (by decide)
def oD : Option Int → PyData
  | none => .none
  | some i => .int i
def spanD : Span → PyData
  | none => .none
  | some (l, h) => .tuple [oD l, oD h]
theorem dat_ov {K : PySem.W.Frag} {H : Hp} (o : Option Int) : Dat K H (ov o) (oD o) := by cases o; exact .non; exact .int _
theorem SpanAt.dat {K : PySem.W.Frag} {H : Hp} {x : V} {sp : Span} (h : SpanAt K H x sp) : Dat K H x (spanD sp) := by
  match sp, h with
  | none, h => cases (show x = .non from h); exact .non
  | some (l, u), ⟨a, e, q⟩ => subst e; exact .tup q (.cons (dat_ov l) (.cons (dat_ov u) .nil))
theorem all_trues {α : Type} (xs : List α) : (xs.map (fun _ => true)).all id = true := by rw [List.all_eq_true]; intro x hx; obtain ⟨_, _, rfl⟩ := List.mem_map.mp hx; rfl
theorem trues_eq (gs : List Int) : (gs.map V.int).map (fun _ => V.bl true) = (gs.map (fun _ => true)).map V.bl := by rw [List.map_map, List.map_map]; rfl
end L3

namespace L3
open PySem PySem.Spec PyProof.Rows L2
section
variable {K : PySem.W.Frag} {a : Addr} {xs : List V} {lo : Int} {n k : Nat} {te : TE} {Q : VK} {σ : L2.St} {H : Hp}
theorem comp_rng (Pv : Nat → List V → Hp → Prop) (h0 : Pv 0 [] H)
    (hs : ∀ i ys H', i < n → Pv i ys H' → te (σ.set k (some (.int (lo + i)))) H' fun y H5 => ys.length < sizeLine ∧ Pv (i + 1) (ys ++ [y]) H5)
    (hd : ∀ ys H', Pv n ys H' → ∀ l, H' l = none → Q (.ref l) (upd H' l (.lst ys))) : CompW (Itr lo n) σ H (gName k) tTrue te Q := by
  refine ⟨fun i m ys σ' H' => m = n - i ∧ i ≤ n ∧ (σ' = σ ∨ ∃ e, σ' = σ.set k e) ∧ Pv i ys H', ⟨n, by simp, Nat.zero_le _, .inl rfl, h0⟩, ?_⟩
  rintro i m ys σ' H' ⟨rfl, hi, hσ, p⟩
  by_cases hlt : i < n
  · refine .inr ⟨hlt, fun zs σ2 H2 => (σ2 = σ ∨ ∃ e, σ2 = σ.set k e) ∧ Pv (i + 1) zs H2, fun zs σ2 H2 p' => ⟨n - (i + 1), by omega, rfl, hlt, p'.1, p'.2⟩, fun x H2 y => ?_⟩
    obtain ⟨e, y⟩ := y
    subst e y
    have e : σ'.set k (some (V.int (lo + i))) = σ.set k (some (V.int (lo + i))) := by
      rcases hσ with rfl | ⟨e, rfl⟩
      · rfl
      · rw [List.set_set]
    show if true = true then te (σ'.set k (some (V.int (lo + i)))) H2 (fun y H5 => ys.length < sizeLine ∧ ((σ'.set k (some (V.int (lo + i))) = σ ∨ ∃ e, σ'.set k (some (V.int (lo + i))) = σ.set k e) ∧ Pv (i + 1) (ys ++ [y]) H5)) else ((σ'.set k (some (V.int (lo + i))) = σ ∨ ∃ e, σ'.set k (some (V.int (lo + i))) = σ.set k e) ∧ Pv (i + 1) ys H2)
    rw [if_pos rfl, e]
    have e2 : (fun (y : V) (H5 : Hp) => ys.length < sizeLine ∧ ((σ.set k (some (V.int (lo + i))) = σ ∨ ∃ e, σ.set k (some (V.int (lo + i))) = σ.set k e) ∧ Pv (i + 1) (ys ++ [y]) H5)) = fun y H5 => ys.length < sizeLine ∧ Pv (i + 1) (ys ++ [y]) H5 := by
      funext y H5
      exact propext ⟨fun z => ⟨z.1, z.2.2⟩, fun z => ⟨z.1, .inr ⟨_, rfl⟩, z.2⟩⟩
    rw [e2]
    exact hs i ys H2 hlt p
  · have e : i = n := by omega
    subst e
    exact .inl ⟨Nat.le_refl _, hd ys H' p⟩
end
theorem Grow.fresh {m : List Addr} {H H' : Hp} (h : ∀ b ∈ m, H b = none) (g : Grow m H H') : Grow [] H H' :=
  ⟨fun b o _ q => g.keep b o (fun z => by rw [h b z] at q; cases q) q, g.tup, g.frz⟩
theorem Grow.less {m m' : List Addr} {H H' : Hp} (g : Grow m H H') (h : ∀ b ∈ m, b ∈ m' ∨ H b = none) : Grow m' H H' :=
  ⟨fun b o n q => g.keep b o (fun z => by
    rcases h b z with w | w
    · exact n w
    · rw [w] at q; cases q) q, g.tup, g.frz⟩
theorem Pot.ne {H : Hp} {a l : Addr} (p : Pot H a) (h : H l = none) : l ∉ [a] := by
  intro z
  obtain ⟨z0, z1, hz, _⟩ := p
  rw [List.mem_singleton.mp z, hz] at h
  cases h
theorem ixN_nat {n : Nat} {i : Int} (h0 : 0 ≤ i) (h : i.toNat < n) : ixN n i = some i.toNat := by
  unfold ixN; rw [if_pos h0, if_pos (by omega)]
theorem ixGet {xs : List V} {i : Int} {j : Nat} {v : V} (h : ixN xs.length i = some j) (hv : xs[j]? = some v) : atI xs i = some v := by
  unfold atI; rw [h]; exact hv
structure Ask where
  hand : Int
  box : Int
  deed : Deed
def AskAt (K : PySem.W.Frag) (H : Hp) (x : V) (k : Ask) : Prop := ∃ r rd, x = .ref r ∧ SqT K H r [.int k.hand, .int k.box, .ref rd] ∧ SqT K H rd k.deed.vs
def AllA (K : PySem.W.Frag) (H : Hp) : List V → List Ask → Prop
  | [], [] => True
  | x :: xs, k :: ks => AskAt K H x k ∧ AllA K H xs ks
  | _, _ => False
def AsksAt (K : PySem.W.Frag) (H : Hp) (x : V) (ks : List Ask) : Prop := ∃ r xs, x = .ref r ∧ SqT K H r xs ∧ AllA K H xs ks
def BoardAt (K : PySem.W.Frag) (H : Hp) (x : V) (b : List Int) : Prop := ∃ r, x = .ref r ∧ SqT K H r (b.map V.int)
theorem Grow.board {m : List Addr} {H H' : Hp} (g : Grow m H H') {K : PySem.W.Frag} {x : V} {b : List Int} (h : BoardAt K H x b) : BoardAt K H' x b := by
  obtain ⟨r, e, h1⟩ := h
  exact ⟨r, e, g.sqT h1⟩
theorem AllA.len {K : PySem.W.Frag} {H : Hp} : ∀ {xs : List V} {ks : List Ask}, AllA K H xs ks → xs.length = ks.length
  | [], [], _ => rfl
  | _ :: xs, _ :: ks, ⟨_, t⟩ => congrArg (· + 1) (AllA.len t)
  | [], _ :: _, h => h.elim
  | _ :: _, [], h => h.elim
theorem AllA.get {K : PySem.W.Frag} {H : Hp} : ∀ {xs : List V} {ks : List Ask} {i : Nat} {x : V}, AllA K H xs ks → xs[i]? = some x → ∃ k, ks[i]? = some k ∧ AskAt K H x k
  | _ :: _, k :: _, 0, x, ⟨h, _⟩, e => by
    obtain rfl := Option.some.inj e
    exact ⟨k, rfl, h⟩
  | _ :: _, _ :: _, i + 1, x, ⟨_, t⟩, e => AllA.get (i := i) t e
  | [], [], i, x, _, e => by cases e
  | [], _ :: _, _, _, h, _ => h.elim
  | _ :: _, [], _, _, h, _ => h.elim
theorem AllA.snoc {K : PySem.W.Frag} {H : Hp} : ∀ {xs : List V} {ks : List Ask} {x : V} {k : Ask}, AllA K H xs ks → AskAt K H x k → AllA K H (xs ++ [x]) (ks ++ [k])
  | [], [], _, _, _, h => ⟨h, trivial⟩
  | _ :: _, _ :: _, _, _, ⟨h, t⟩, q => ⟨h, AllA.snoc t q⟩
  | [], _ :: _, _, _, h, _ => h.elim
  | _ :: _, [], _, _, h, _ => h.elim
theorem getD_of {xs : List Int} {i : Nat} (h : i < xs.length) : xs[i]? = some (xs.getD i 0) := by
  rw [List.getD_eq_getElem?_getD, List.getElem?_eq_getElem h]; rfl
def InB (B : Int) (xs : List Int) : Prop := ∀ v ∈ xs, -B < v ∧ v < B
def intsD (xs : List Int) : PyData := .tuple (xs.map PyData.int)
def deedD (d : Deed) : PyData := .tuple [.int d.add, oD d.lo, oD d.hi]
def askD (k : Ask) : PyData := .tuple [.int k.hand, .int k.box, deedD k.deed]
def asksD (ks : List Ask) : PyData := .tuple (ks.map askD)
theorem dat_ints {K : PySem.W.Frag} {H : Hp} : ∀ xs : List Int, DatAll K H (xs.map V.int) (xs.map PyData.int)
  | [] => .nil
  | x :: xs => .cons (.int x) (dat_ints xs)
theorem BoardAt.dat {K : PySem.W.Frag} {H : Hp} {x : V} {b : List Int} (h : BoardAt K H x b) : Dat K H x (intsD b) := by
  obtain ⟨r, rfl, h⟩ := h
  exact .tup h (dat_ints b)
theorem dat_deed {K : PySem.W.Frag} {H : Hp} {r : Addr} {d : Deed} (h : SqT K H r d.vs) : Dat K H (.ref r) (deedD d) := .tup h (.cons (.int _) (.cons (dat_ov _) (.cons (dat_ov _) .nil)))
theorem AskAt.dat {K : PySem.W.Frag} {H : Hp} {x : V} {k : Ask} (h : AskAt K H x k) : Dat K H x (askD k) := by
  obtain ⟨r, rd, rfl, h1, h2⟩ := h
  exact .tup h1 (.cons (.int _) (.cons (.int _) (.cons (dat_deed h2) .nil)))
theorem AllA.dat {K : PySem.W.Frag} {H : Hp} : ∀ {xs : List V} {ks : List Ask}, AllA K H xs ks → DatAll K H xs (ks.map askD)
  | [], [], _ => .nil
  | _ :: _, _ :: _, ⟨h, t⟩ => .cons h.dat (AllA.dat t)
  | [], _ :: _, h => h.elim
  | _ :: _, [], h => h.elim
theorem AsksAt.dat {K : PySem.W.Frag} {H : Hp} {x : V} {ks : List Ask} (h : AsksAt K H x ks) : Dat K H x (asksD ks) := by
  obtain ⟨r, xs, rfl, h1, h2⟩ := h
  exact .tup h1 h2.dat
def Sh (d : PyData) (w n : Nat) : Prop := d.showable = true ∧ d.hasDict = false ∧ wtD d ≤ w ∧ d.depth ≤ n
theorem Sh.mono {d : PyData} {w w' n n' : Nat} (h : Sh d w n) (h1 : w ≤ w') (h2 : n ≤ n') : Sh d w' n' := ⟨h.1, h.2.1, Nat.le_trans h.2.2.1 h1, Nat.le_trans h.2.2.2 h2⟩
def ShA (ds : List PyData) (w n : Nat) : Prop := PyData.showableAll ds = true ∧ PyData.hasDictAll ds = false ∧ wtAll ds ≤ w ∧ PyData.depthAll ds ≤ n
theorem sha_nil {n : Nat} : ShA [] 0 n := ⟨rfl, rfl, Nat.le_refl _, Nat.zero_le _⟩
theorem sha_cons {d : PyData} {ds : List PyData} {w v n : Nat} (h : Sh d w n) (t : ShA ds v n) : ShA (d :: ds) (w + 2 + v) n := by
  obtain ⟨a1, a2, a3, a4⟩ := h
  obtain ⟨b1, b2, b3, b4⟩ := t
  refine ⟨?_, ?_, ?_, ?_⟩
  · show (d.showable && PyData.showableAll ds) = true
    rw [a1, b1]; rfl
  · show (d.hasDict || PyData.hasDictAll ds) = false
    rw [a2, b2]; rfl
  · show wtD d + 2 + wtAll ds ≤ _; omega
  · show max d.depth (PyData.depthAll ds) ≤ n; omega
theorem sh_tup {ds : List PyData} {w n : Nat} (h : ShA ds w n) : Sh (.tuple ds) (w + 3) (n + 1) := ⟨h.1, h.2.1, Nat.add_le_add_right h.2.2.1 3, Nat.add_le_add_right h.2.2.2 1⟩
theorem sh_int {i : Int} {n : Nat} (h : I200 i) : Sh (.int i) 1921 n := ⟨decide_eq_true (repI2 h), rfl, Nat.le_refl _, Nat.zero_le _⟩
theorem sh_oD {o : Option Int} {n : Nat} (h : ∀ i, o = some i → I200 i) : Sh (oD o) 1921 n := by
  cases o with
  | none => exact ⟨rfl, rfl, (by show (5 : Nat) ≤ 1921; decide), Nat.zero_le _⟩
  | some i => exact sh_int (h i rfl)
theorem sha_map {α : Type} {f : α → PyData} {w n : Nat} : ∀ {xs : List α}, (∀ x ∈ xs, Sh (f x) w n) → ShA (xs.map f) (xs.length * (w + 2)) n
  | [], _ => by rw [show ([] : List α).length * (w + 2) = 0 from Nat.zero_mul _]; exact sha_nil
  | x :: xs, h => by
    have z := sha_cons (h x (by simp)) (sha_map (xs := xs) fun y hy => h y (List.mem_cons_of_mem _ hy))
    rw [show (x :: xs).length * (w + 2) = w + 2 + xs.length * (w + 2) by rw [List.length_cons, Nat.add_mul, Nat.one_mul, Nat.add_comm]]
    exact z
theorem sh_ints {xs : List Int} {n : Nat} (h : InB (2 ^ 300) xs) : Sh (intsD xs) (xs.length * 1923 + 3) (n + 1) := sh_tup (sha_map fun x hx => sh_int (h x hx))
def ToldAt (K : PySem.W.Frag) (H : Hp) (x : V) (p : List Int × List Int) : Prop := ∃ r r1 r2, x = .ref r ∧ SqT K H r [.ref r1, .ref r2] ∧ SqT K H r1 (p.1.map V.int) ∧ SqT K H r2 (p.2.map V.int)
def toldD (p : List Int × List Int) : PyData := .tuple [intsD p.1, intsD p.2]
theorem ToldAt.dat {K : PySem.W.Frag} {H : Hp} {x : V} {p : List Int × List Int} (h : ToldAt K H x p) : Dat K H x (toldD p) := by
  obtain ⟨r, r1, r2, rfl, h0, h1, h2⟩ := h
  exact .tup h0 (.cons (.tup h1 (dat_ints _)) (.cons (.tup h2 (dat_ints _)) .nil))
theorem InB.mono {B C : Int} {xs : List Int} (h : InB B xs) (hC : B ≤ C) : InB C xs := fun v hv => by have := h v hv; omega
def sp_draw (_ : PySem.W.Frag) : Sp := sp2 fun x y H Q => ∃ a m, x = .ref a ∧ y = .int m ∧ Pot H a ∧ 0 < m ∧ m < 2 ^ 200 ∧ ∀ n H', 0 ≤ n → n < m → Grow [a] H H' → Pot H' a → Q (.int n) H'
def sp_is_within (K : PySem.W.Frag) : Sp := sp3 fun x y z H Q => ∃ i l u, x = .int i ∧ y = .int l ∧ z = .int u ∧ Q (.bl (decide (l ≤ i) && decide (i ≤ u))) H
def sp_right22 (K : PySem.W.Frag) : Sp := sp1 fun x H Q => ∃ a, x = .ref a ∧ Pot H a ∧ ∀ H', Grow [a] H H' → Q (.bl true) H'
end L3

namespace L3
open PySem PySem.Spec PyProof.Rows L2
theorem fnok_vac {P : Program} {w : World} {K : PySem.W.Frag} {mg : Str → Option Value} {base : Heap} {CX : CXT} {k : Nat} {f : Addr} {fd : FuncData} {ps : List Str} {sp : Sp} (h : ∀ vs H Q E, ¬ sp vs H Q E) : FnOk P w K mg base CX k f fd ps sp :=
  ⟨fun vs H Q E z => (h vs H Q E z).elim, by
    intros
    first
      | exact (h _ _ _ _ (by assumption)).elim⟩
inductive Tr where
  | leaf (n : Int)
  | node (l r : Tr)
def Tr.count : Tr → Int
  | .leaf _ => 1
  | .node l r => l.count + r.count
def Tr.ht : Tr → Nat
  | .leaf _ => 0
  | .node l r => max l.ht r.ht + 1
def TreeAt (K : PySem.W.Frag) (H : Hp) (x : V) : Tr → Prop
  | .leaf n => x = .int n
  | .node l r => ∃ a xl xr, x = .ref a ∧ SqT K H a [xl, xr] ∧ TreeAt K H xl l ∧ TreeAt K H xr r
theorem Grow.tree {m : List Addr} {H H' : Hp} (g : Grow m H H') {K : PySem.W.Frag} : ∀ {t : Tr} {x : V}, TreeAt K H x t → TreeAt K H' x t
  | .leaf n, x, h => h
  | .node l r, x, h => by
    obtain ⟨a, xl, xr, e, hs, h1, h2⟩ := h
    exact ⟨a, xl, xr, e, g.sqT hs, g.tree h1, g.tree h2⟩
def trD : Tr → PyData
  | .leaf n => .int n
  | .node l r => .tuple [trD l, trD r]
theorem TreeAt.dat {K : PySem.W.Frag} {H : Hp} : ∀ {t : Tr} {x : V}, TreeAt K H x t → Dat K H x (trD t)
  | .leaf n, x, h => by
    cases (show x = V.int n from h)
    exact .int n
  | .node l r, x, h => by
    obtain ⟨a, xl, xr, e, hs, h1, h2⟩ := h
    subst e
    exact .tup hs (.cons (TreeAt.dat h1) (.cons (TreeAt.dat h2) .nil))
def Tr.Nums (t : Tr) : Prop := match t with
  | .leaf n => I200 n
  | .node l r => l.Nums ∧ r.Nums
def Tr.wt : Tr → Nat
  | .leaf _ => 1
  | .node l r => l.wt + r.wt + 1
theorem sh_tree : ∀ {t : Tr}, t.Nums → Sh (trD t) (t.wt * 1928) t.ht
  | .leaf n, h => (sh_int h).mono (by show 1921 ≤ 1 * 1928; decide) (Nat.le_refl 0)
  | .node l r, h => by
    have a := (sh_tree (t := l) h.1).mono (Nat.le_refl _) (show l.ht ≤ max l.ht r.ht by omega)
    have b := (sh_tree (t := r) h.2).mono (Nat.le_refl _) (show r.ht ≤ max l.ht r.ht by omega)
    have z := sh_tup (sha_cons a (sha_cons b sha_nil))
    refine z.mono ?_ (Nat.le_refl (max l.ht r.ht + 1))
    show l.wt * 1928 + 2 + (r.wt * 1928 + 2 + 0) + 3 ≤ (l.wt + r.wt + 1) * 1928
    omega
theorem kn_tree {K : PySem.W.Frag} {H : Hp} {t : Tr} {x : V} (h : TreeAt K H x t) : Kn K H x := by
  cases t with
  | leaf n => cases (show x = V.int n from h); exact kn_int
  | node l r =>
    obtain ⟨a, xl, xr, e, hs, _⟩ := h
    subst e
    exact ⟨"tuple", .inl ⟨rfl, _, hs⟩⟩
def sp_need_many (_ : PySem.W.Frag) : Sp := sp1 fun x H Q => ∃ m, x = .int m ∧ 1 ≤ m ∧ m ≤ 40 ∧ Q .non H
end L3

namespace L3
open PySem PySem.Spec PyProof.Rows L2
def sp4 (b : V → V → V → V → Hp → VK → Prop) : Sp := fun vs H Q _ => ∃ x y z u, vs = [x, y, z, u] ∧ b x y z u H Q
theorem sp4_len {b : V → V → V → V → Hp → VK → Prop} {p q r s : Str} : ∀ vs H Q E, sp4 b vs H Q E → vs.length = [p, q, r, s].length := fun vs H Q E h => by
  obtain ⟨x, y, z, u, rfl, _⟩ := h; rfl
def AllR {α : Type} (R : V → α → Prop) : List V → List α → Prop
  | [], [] => True
  | x :: xs, k :: ks => R x k ∧ AllR R xs ks
  | _, _ => False
section
variable {α : Type} {R S : V → α → Prop}
theorem AllR.imp (h : ∀ x k, R x k → S x k) : ∀ {xs : List V} {ks : List α}, AllR R xs ks → AllR S xs ks
  | [], [], _ => trivial
  | _ :: _, _ :: _, ⟨a, t⟩ => ⟨h _ _ a, AllR.imp h t⟩
  | [], _ :: _, z => z.elim
  | _ :: _, [], z => z.elim
theorem AllR.len : ∀ {xs : List V} {ks : List α}, AllR R xs ks → xs.length = ks.length
  | [], [], _ => rfl
  | _ :: xs, _ :: ks, ⟨_, t⟩ => congrArg (· + 1) (AllR.len t)
  | [], _ :: _, h => h.elim
  | _ :: _, [], h => h.elim
theorem AllR.get : ∀ {xs : List V} {ks : List α} {i : Nat} {x : V}, AllR R xs ks → xs[i]? = some x → ∃ k, ks[i]? = some k ∧ R x k
  | _ :: _, k :: _, 0, x, ⟨h, _⟩, e => by
    obtain rfl := Option.some.inj e
    exact ⟨k, rfl, h⟩
  | _ :: _, _ :: _, i + 1, x, ⟨_, t⟩, e => AllR.get (i := i) t e
  | [], [], i, x, _, e => by cases e
  | [], _ :: _, _, _, h, _ => h.elim
  | _ :: _, [], _, _, h, _ => h.elim
theorem AllR.getR : ∀ {xs : List V} {ks : List α} {i : Nat} {k : α}, AllR R xs ks → ks[i]? = some k → ∃ x, xs[i]? = some x ∧ R x k
  | x :: _, _ :: _, 0, k, ⟨h, _⟩, e => by
    obtain rfl := Option.some.inj e
    exact ⟨x, rfl, h⟩
  | _ :: _, _ :: _, i + 1, k, ⟨_, t⟩, e => AllR.getR (i := i) t e
  | [], [], i, k, _, e => by cases e
  | [], _ :: _, _, _, h, _ => h.elim
  | _ :: _, [], _, _, h, _ => h.elim
theorem AllR.app : ∀ {xs ys : List V} {ks js : List α}, AllR R xs ks → AllR R ys js → AllR R (xs ++ ys) (ks ++ js)
  | [], _, [], _, _, h => h
  | _ :: _, _, _ :: _, _, ⟨h, t⟩, q => ⟨h, AllR.app t q⟩
  | [], _, _ :: _, _, h, _ => h.elim
  | _ :: _, _, [], _, h, _ => h.elim
theorem AllR.one {x : V} {k : α} (h : R x k) : AllR R [x] [k] := ⟨h, trivial⟩
theorem AllR.take : ∀ {xs : List V} {ks : List α} {n : Nat}, AllR R xs ks → AllR R (xs.take n) (ks.take n)
  | [], [], n, _ => by rw [List.take_nil, List.take_nil]; trivial
  | _ :: _, _ :: _, 0, _ => trivial
  | _ :: _, _ :: _, n + 1, ⟨h, t⟩ => ⟨h, AllR.take t⟩
  | [], _ :: _, _, h => h.elim
  | _ :: _, [], _, h => h.elim
theorem AllR.snocE {xs : List V} {x : V} {ks : List α} (h : AllR R (xs ++ [x]) ks) : ∃ js j, ks = js ++ [j] ∧ AllR R xs js ∧ R x j := by
  induction xs generalizing ks with
  | nil =>
    cases ks with
    | nil => exact h.elim
    | cons k ks =>
      obtain ⟨a, b⟩ := h
      cases ks with
      | nil => exact ⟨[], k, rfl, trivial, a⟩
      | cons _ _ => exact b.elim
  | cons y ys ih =>
    cases ks with
    | nil => exact h.elim
    | cons k ks =>
      obtain ⟨a, b⟩ := h
      obtain ⟨js, j, rfl, p, q⟩ := ih b
      exact ⟨k :: js, j, rfl, ⟨a, p⟩, q⟩
end
def DeedsT (K : PySem.W.Frag) (H : Hp) (x : V) (ds : List Deed) : Prop := ∃ r xs, x = .ref r ∧ SqT K H r xs ∧ AllR (DeedAt K H) xs ds
theorem Grow.deedsR {m : List Addr} {H H' : Hp} (g : Grow m H H') {K : PySem.W.Frag} {xs : List V} {ds : List Deed} (h : AllR (DeedAt K H) xs ds) : AllR (DeedAt K H') xs ds := h.imp fun _ _ z => g.deed z
theorem Grow.deedsT {m : List Addr} {H H' : Hp} (g : Grow m H H') {K : PySem.W.Frag} {x : V} {ds : List Deed} (h : DeedsT K H x ds) : DeedsT K H' x ds := by
  obtain ⟨r, xs, e, h1, h2⟩ := h
  exact ⟨r, xs, e, g.sqT h1, g.deedsR h2⟩
theorem DeedAt.dat {K : PySem.W.Frag} {H : Hp} {x : V} {d : Deed} (h : DeedAt K H x d) : Dat K H x (deedD d) := by
  obtain ⟨r, rfl, h⟩ := h
  exact dat_deed h
theorem datR {α : Type} {K : PySem.W.Frag} {H : Hp} {R : V → α → Prop} {f : α → PyData} (h : ∀ x k, R x k → Dat K H x (f k)) : ∀ {xs : List V} {ks : List α}, AllR R xs ks → DatAll K H xs (ks.map f)
  | [], [], _ => .nil
  | _ :: _, _ :: _, ⟨a, t⟩ => .cons (h _ _ a) (datR h t)
  | [], _ :: _, h => h.elim
  | _ :: _, [], h => h.elim
theorem DeedsT.dat {K : PySem.W.Frag} {H : Hp} {x : V} {ds : List Deed} (h : DeedsT K H x ds) : Dat K H x (.tuple (ds.map deedD)) := by
  obtain ⟨r, xs, rfl, h1, h2⟩ := h
  exact .tup h1 (datR (fun _ _ z => z.dat) h2)
def Ordd : Tr → Int → Prop
  | .leaf n, f => n = f
  | .node l r, f => Ordd l f ∧ Ordd r (f + l.count)
def look : Deed := ⟨0, none, none⟩
def foldT (ds : List Deed) : Tr → Deed
  | .leaf n => ds.getD n.toNat look
  | .node l r => joinD (foldT ds l) (foldT ds r)
def shareT (ds : List Deed) : Tr → Int → List Int
  | .leaf _, v => [v]
  | .node l r, v => shareT ds l v ++ shareT ds r ((foldT ds l).mk' v)
def AllOk (ds : List Deed) : Prop := ∀ d ∈ ds, d.Ok
theorem count_pos : ∀ t : Tr, 1 ≤ t.count
  | .leaf _ => Int.le_refl 1
  | .node l r => by have := count_pos l; have := count_pos r; show 1 ≤ l.count + r.count; omega
theorem getD_ok {ds : List Deed} (h : AllOk ds) (i : Nat) : (ds.getD i look).Ok := by
  rw [List.getD_eq_getElem?_getD]
  cases e : ds[i]? with
  | none => exact look_ok
  | some d => exact h d (List.mem_of_getElem? e)
def runD (ds : List Deed) : Deed := ds.foldl joinD look
def runA : List Deed → Int → List Int
  | [], _ => []
  | d :: ds, v => v :: runA ds (d.mk' v)
def runV : List Deed → Int → Int
  | [], v => v
  | d :: ds, v => runV ds (d.mk' v)
theorem foldl_join {ds : List Deed} (h : AllOk ds) : ∀ {d : Deed}, d.Ok → ds.foldl joinD d = joinD d (runD ds) := by
  induction ds with
  | nil => intro d o; exact (joinD_look o).symm
  | cons e es ih =>
    intro d o
    have he : e.Ok := h e (by simp)
    have hes : AllOk es := fun x hx => h x (List.mem_cons_of_mem _ hx)
    have r0 : (runD es).Ok := by
      have key : ∀ (ds : List Deed) (d : Deed), AllOk ds → d.Ok → (ds.foldl joinD d).Ok := by
        intro ds
        induction ds with
        | nil => intro d _ o; exact o
        | cons x xs ih2 => intro d hh o; exact ih2 _ (fun y hy => hh y (List.mem_cons_of_mem _ hy)) (joinD_ok o (hh x (by simp)))
      exact key es look hes look_ok
    show es.foldl joinD (joinD d e) = joinD d (es.foldl joinD (joinD look e))
    rw [show joinD look e = e from look_joinD he, ih hes (joinD_ok o he), ih hes he, joinD_assoc o he r0]
theorem runD_ok : ∀ {ds : List Deed}, AllOk ds → (runD ds).Ok := by
  have key : ∀ (ds : List Deed) (d : Deed), AllOk ds → d.Ok → (ds.foldl joinD d).Ok := by
    intro ds
    induction ds with
    | nil => intro d _ o; exact o
    | cons x xs ih2 => intro d hh o; exact ih2 _ (fun y hy => hh y (List.mem_cons_of_mem _ hy)) (joinD_ok o (hh x (by simp)))
  exact fun {ds} h => key ds look h look_ok
theorem runD_app {as bs : List Deed} (ha : AllOk as) (hb : AllOk bs) : runD (as ++ bs) = joinD (runD as) (runD bs) := by
  unfold runD
  rw [List.foldl_append]
  exact foldl_join hb (runD_ok ha)
theorem runD_cons {d : Deed} {ds : List Deed} (o : d.Ok) (h : AllOk ds) : runD (d :: ds) = joinD d (runD ds) := by
  show ds.foldl joinD (joinD look d) = _
  rw [show joinD look d = d from look_joinD o]
  exact foldl_join h o
theorem runD_mk : ∀ {ds : List Deed}, AllOk ds → ∀ v, (runD ds).mk' v = runV ds v
  | [], _, v => look_mk v
  | d :: ds, h, v => by
    have o : d.Ok := h d (by simp)
    have h' : AllOk ds := fun x hx => h x (List.mem_cons_of_mem _ hx)
    rw [runD_cons o h', joinD_mk o (runD_ok h'), runD_mk h']
    rfl
theorem runA_app : ∀ {as bs : List Deed} (v : Int), runA (as ++ bs) v = runA as v ++ runA bs (runV as v)
  | [], _, _ => rfl
  | a :: as, bs, v => by show v :: runA (as ++ bs) (a.mk' v) = v :: (runA as (a.mk' v) ++ runA bs (runV as (a.mk' v))); rw [runA_app]
def seg (ds : List Deed) (f n : Int) : List Deed := (ds.drop f.toNat).take n.toNat
theorem seg_app {ds : List Deed} {f a b : Int} (hf : 0 ≤ f) (ha : 0 ≤ a) (hb : 0 ≤ b) : seg ds f (a + b) = seg ds f a ++ seg ds (f + a) b := by
  unfold seg
  rw [show (a + b).toNat = a.toNat + b.toNat by omega, show (f + a).toNat = f.toNat + a.toNat by omega, List.take_add, List.drop_drop]
theorem seg_ok {ds : List Deed} (h : AllOk ds) (f n : Int) : AllOk (seg ds f n) := fun d hd => h d (List.mem_of_mem_drop (List.mem_of_mem_take hd))
theorem seg_one {ds : List Deed} {f : Int} (h0 : 0 ≤ f) (h : f < ds.length) : seg ds f 1 = [ds.getD f.toNat look] := by
  unfold seg
  have hj : f.toNat < ds.length := by omega
  rw [List.drop_eq_getElem_cons hj, List.getD_eq_getElem?_getD, List.getElem?_eq_getElem hj]
  rfl
theorem seg_all (ds : List Deed) : seg ds 0 ds.length = ds := by
  unfold seg
  rw [Int.toNat_natCast, show (0 : Int).toNat = 0 from rfl, List.drop_zero, List.take_length]
theorem foldT_seg {ds : List Deed} (h : AllOk ds) : ∀ {t : Tr} {f : Int}, Ordd t f → 0 ≤ f → f + t.count ≤ ds.length → foldT ds t = runD (seg ds f t.count)
  | .leaf n, f, o, h0, h1 => by
    cases (show n = f from o)
    have h1' : n + 1 ≤ ds.length := h1
    show ds.getD n.toNat look = runD (seg ds n 1)
    rw [seg_one h0 (by omega), runD_cons (getD_ok h _) (fun x hx => by cases hx)]
    exact (joinD_look (getD_ok h _)).symm
  | .node l r, f, o, h0, h1 => by
    have c1 := count_pos l
    have c2 := count_pos r
    have h1' : f + (l.count + r.count) ≤ ds.length := h1
    show joinD (foldT ds l) (foldT ds r) = runD (seg ds f (l.count + r.count))
    rw [seg_app h0 (by omega) (by omega), runD_app (seg_ok h _ _) (seg_ok h _ _), foldT_seg h o.1 h0 (by omega), foldT_seg h o.2 (by omega) (by omega)]
theorem shareT_seg {ds : List Deed} (h : AllOk ds) : ∀ {t : Tr} {f : Int} (v : Int), Ordd t f → 0 ≤ f → f + t.count ≤ ds.length → shareT ds t v = runA (seg ds f t.count) v
  | .leaf n, f, v, o, h0, h1 => by
    cases (show n = f from o)
    have h1' : n + 1 ≤ ds.length := h1
    show [v] = runA (seg ds n 1) v
    rw [seg_one h0 (by omega)]; rfl
  | .node l r, f, v, o, h0, h1 => by
    have c1 := count_pos l
    have c2 := count_pos r
    have h1' : f + (l.count + r.count) ≤ ds.length := h1
    show shareT ds l v ++ shareT ds r ((foldT ds l).mk' v) = runA (seg ds f (l.count + r.count)) v
    rw [seg_app h0 (by omega) (by omega), runA_app, shareT_seg h v o.1 h0 (by omega), shareT_seg h _ o.2 (by omega) (by omega), foldT_seg h o.1 h0 (by omega), runD_mk (seg_ok h _ _)]
theorem shareT_len (ds : List Deed) : ∀ (t : Tr) (v : Int), ((shareT ds t v).length : Int) = t.count
  | .leaf _, _ => rfl
  | .node l r, v => by
    show ((shareT ds l v ++ shareT ds r _).length : Int) = l.count + r.count
    rw [List.length_append, Int.natCast_add, shareT_len ds l, shareT_len ds r]
theorem sh_deedB {d : Deed} {n : Nat} (h : d.Bd (2 ^ 299)) : Sh (deedD d) 5772 (n + 1) := by
  have q : ∀ i, -(2 ^ 299) ≤ i → i ≤ 2 ^ 299 → I200 i := fun i a b => by
    have e : (2 : Int) ^ 300 = 2 * 2 ^ 299 := by rw [Int.pow_succ, Int.mul_comm]
    have p : (0 : Int) < 2 ^ 299 := Int.pow_pos (by decide)
    exact ⟨by rw [e]; omega, by rw [e]; omega⟩
  exact sh_tup (sha_cons (sh_int (q _ h.1.1 h.1.2)) (sha_cons (sh_oD fun i e => q i (h.2.1 i e).1 (h.2.1 i e).2) (sha_cons (sh_oD fun i e => q i (h.2.2 i e).1 (h.2.2 i e).2) sha_nil)))
end L3

namespace L3
open PySem PySem.Spec PyProof.Rows L2
theorem snoc_of {xs : List V} (h : xs ≠ []) : ∃ ys y, xs = ys ++ [y] := by
  cases e : xs.reverse with
  | nil => exact absurd (List.reverse_eq_nil_iff.mp e) h
  | cons y r => exact ⟨r.reverse, y, by rw [← List.reverse_reverse xs, e, List.reverse_cons]⟩
def OrdR : List Tr → Int → Int → Prop
  | [], f, m => f = m
  | t :: ts, f, m => Ordd t f ∧ OrdR ts (f + t.count) m
def wsum (ts : List Tr) : Nat := (ts.map Tr.wt).sum
theorem wsum_snoc {ts : List Tr} {t : Tr} : wsum (ts ++ [t]) = wsum ts + t.wt := by
  unfold wsum
  rw [List.map_append, List.sum_append]; simp
theorem wt_pos : ∀ t : Tr, 1 ≤ t.wt
  | .leaf _ => Nat.le_refl 1
  | .node l r => by show 1 ≤ l.wt + r.wt + 1; omega
theorem wt_count : ∀ t : Tr, (t.wt : Int) = 2 * t.count - 1
  | .leaf _ => rfl
  | .node l r => by
    have a := wt_count l
    have b := wt_count r
    show ((l.wt + r.wt + 1 : Nat) : Int) = 2 * (l.count + r.count) - 1
    omega
theorem len_wsum : ∀ ts : List Tr, ts.length ≤ wsum ts
  | [] => Nat.le_refl 0
  | t :: ts => by
    have a := len_wsum ts
    have b := wt_pos t
    show ts.length + 1 ≤ (t.wt :: ts.map Tr.wt).sum
    rw [List.sum_cons]
    have : wsum ts = (ts.map Tr.wt).sum := rfl
    omega
theorem Grow.treesR {m : List Addr} {H H' : Hp} (g : Grow m H H') {K : PySem.W.Frag} {xs : List V} {ts : List Tr} (h : AllR (TreeAt K H) xs ts) : AllR (TreeAt K H') xs ts := h.imp fun _ _ z => g.tree z
theorem AllR.drop {α : Type} {R : V → α → Prop} : ∀ {xs : List V} {ks : List α} {n : Nat}, AllR R xs ks → AllR R (xs.drop n) (ks.drop n)
  | [], [], n, _ => by rw [List.drop_nil, List.drop_nil]; trivial
  | _ :: _, _ :: _, 0, h => h
  | _ :: _, _ :: _, n + 1, ⟨h, t⟩ => AllR.drop (n := n) t
  | [], _ :: _, _, h => h.elim
  | _ :: _, [], _, h => h.elim
def TOk (m : Int) (t : Tr) : Prop := Ordd t 0 ∧ t.count = m ∧ t.ht < 41 ∧ t.Nums
theorem TOk.sh {m : Int} {t : Tr} (h : TOk m t) (hm : m ≤ 40) : Sh (trD t) 154240 40 := by
  obtain ⟨_, h1, h2, h3⟩ := h
  have w := wt_count t
  exact (sh_tree h3).mono (by have : t.wt ≤ 80 := by omega
                              have := Nat.mul_le_mul_right 1928 this
                              omega) (by omega)
def sp_need_deeds (K : PySem.W.Frag) : Sp := sp1 fun x H Q => ∃ ds, DeedsT K H x ds ∧ 1 ≤ ds.length ∧ ds.length ≤ 40 ∧ AllOk ds ∧ ∀ H', Grow [] H H' → Q .non H'
def sp_is_tree (K : PySem.W.Frag) : Sp := sp2 fun x y H Q => ∃ t m, TreeAt K H x t ∧ y = .int m ∧ Ordd t 0 ∧ t.count = m ∧ 1 ≤ m ∧ m ≤ 40 ∧ ∀ H', Grow [] H H' → Q (.bl true) H'
def sp_need_tree (K : PySem.W.Frag) : Sp := sp2 fun x y H Q => ∃ t m, TreeAt K H x t ∧ y = .int m ∧ Ordd t 0 ∧ t.count = m ∧ 1 ≤ m ∧ m ≤ 40 ∧ ∀ H', Grow [] H H' → Q .non H'
def sp_share (N : Nat) (K : PySem.W.Frag) : Sp := sp4 fun x y z u H Q => ∃ (ds : List Deed) (t : Tr) (f v : Int) (l : Addr) (xs : List Int), DeedsT K H x ds ∧ TreeAt K H y t ∧ Ordd t f ∧ 0 ≤ f ∧ f + t.count ≤ ds.length ∧ t.ht < N ∧ z = .int v ∧ u = .ref l ∧ H l = some (.lst (xs.map V.int)) ∧ (xs.length : Int) + t.count ≤ 500 ∧ ∀ y H', Grow [l] H H' → H' l = some (.lst ((xs ++ shareT ds t v).map V.int)) → DeedAt K H' y (foldT ds t) → Q y H'
theorem vac_share {K : PySem.W.Frag} : ∀ vs H Q E, ¬ sp_share 0 K vs H Q E := by
  rintro vs H Q E ⟨x, y, z, u, _, ds, t, f, v, l, xs, _, _, _, _, _, h, _⟩
  omega
def sp_shared_out (K : PySem.W.Frag) : Sp := sp3 fun x y z H Q => ∃ ds t v, DeedsT K H x ds ∧ 1 ≤ ds.length ∧ ds.length ≤ 40 ∧ AllOk ds ∧ TreeAt K H y t ∧ Ordd t 0 ∧ t.count = ds.length ∧ t.ht < 41 ∧ z = .int v ∧ ∀ y H', Grow [] H H' → BoardAt K H' y (runA ds v) → Q y H'
end L3

namespace L3
open PySem PySem.Spec PyProof.Rows L2
theorem call_lenK {X : Cx} {K : PySem.W.Frag} (h : X.K = K) : CallR X (.builtin "len") (fun xs H Q => ∃ p ys, xs = [.ref p] ∧ (SqL K H p ys ∨ SqT K H p ys) ∧ Q (.int ys.length) H) := by subst h; exact call_len_seq
theorem call_tupleK {X : Cx} {K : PySem.W.Frag} (h : X.K = K) : CallR X (.type "tuple") (fun xs H Q => ∃ p ys, xs = [.ref p] ∧ ((SqL K H p ys ∧ ∀ l, H l = none → Q (.ref l) (upd H l (.tup ys))) ∨ (SqT K H p ys ∧ Q (.ref p) H))) := by subst h; exact call_tuple_of
def sp5 (b : V → V → V → V → V → Hp → VK → Prop) : Sp := fun vs H Q _ => ∃ x y z u w, vs = [x, y, z, u, w] ∧ b x y z u w H Q
theorem sp5_len {b : V → V → V → V → V → Hp → VK → Prop} {p q r s t : Str} : ∀ vs H Q E, sp5 b vs H Q E → vs.length = [p, q, r, s, t].length := fun vs H Q E h => by
  obtain ⟨x, y, z, u, w, rfl, _⟩ := h; rfl
def sp6 (b : V → V → V → V → V → V → Hp → VK → Prop) : Sp := fun vs H Q _ => ∃ x y z u w k, vs = [x, y, z, u, w, k] ∧ b x y z u w k H Q
theorem sp6_len {b : V → V → V → V → V → V → Hp → VK → Prop} {p q r s t u : Str} : ∀ vs H Q E, sp6 b vs H Q E → vs.length = [p, q, r, s, t, u].length := fun vs H Q E h => by
  obtain ⟨x, y, z, u, w, k, rfl, _⟩ := h; rfl
def RowsAt (K : PySem.W.Frag) (H : Hp) (x : V) (rows : List (List Int)) : Prop := ∃ r xs, x = .ref r ∧ SqT K H r xs ∧ AllR (BoardAt K H) xs rows
theorem Grow.boardsR {m : List Addr} {H H' : Hp} (g : Grow m H H') {K : PySem.W.Frag} {xs : List V} {rows : List (List Int)} (h : AllR (BoardAt K H) xs rows) : AllR (BoardAt K H') xs rows := h.imp fun _ _ z => g.board z
theorem Grow.rows {m : List Addr} {H H' : Hp} (g : Grow m H H') {K : PySem.W.Frag} {x : V} {rows : List (List Int)} (h : RowsAt K H x rows) : RowsAt K H' x rows := by
  obtain ⟨r, xs, e, h1, h2⟩ := h
  exact ⟨r, xs, e, g.sqT h1, g.boardsR h2⟩
def Rng (m : Int) (xs : List Int) : Prop := ∀ v ∈ xs, 0 ≤ v ∧ v < m
def TabOk (R M : Nat) (rows : List (List Int)) : Prop := rows.length = R ∧ ∀ row ∈ rows, row.length = M ∧ Rng M row
theorem getI {xs : List Int} {i : Int} (h0 : 0 ≤ i) (h : i < xs.length) : atI (xs.map V.int) i = some (V.int (xs.getD i.toNat 0)) := by
  have hj : i.toNat < xs.length := by omega
  exact ixGet (ixN_nat h0 (by rw [List.length_map]; exact hj)) (by rw [List.getElem?_map, getD_of hj]; rfl)
theorem rng_get {m : Int} {xs : List Int} (h : Rng m xs) {i : Int} (h0 : 0 ≤ i) (h1 : i < xs.length) : 0 ≤ xs.getD i.toNat 0 ∧ xs.getD i.toNat 0 < m := by
  have hj : i.toNat < xs.length := by omega
  exact h _ (List.mem_of_getElem? (getD_of hj))
theorem getRow {K : PySem.W.Frag} {H : Hp} {xs : List V} {rows : List (List Int)} (h : AllR (BoardAt K H) xs rows) {i : Int} (h0 : 0 ≤ i) (h1 : i < rows.length) : ∃ a, atI xs i = some (V.ref a) ∧ SqT K H a ((rows.getD i.toNat []).map V.int) := by
  have hj : i.toNat < rows.length := by omega
  have e : rows[i.toNat]? = some (rows.getD i.toNat []) := by rw [List.getD_eq_getElem?_getD, List.getElem?_eq_getElem hj]; rfl
  obtain ⟨x, hx, a, rfl, hs⟩ := h.getR e
  exact ⟨a, ixGet (ixN_nat h0 (by rw [h.len]; exact hj)) hx, hs⟩
theorem rowOk {R M : Nat} {rows : List (List Int)} (h : TabOk R M rows) {i : Int} (h0 : 0 ≤ i) (h1 : i < R) : (rows.getD i.toNat []).length = M ∧ Rng M (rows.getD i.toNat []) := by
  have hj : i.toNat < rows.length := by rw [h.1]; omega
  have e : rows[i.toNat]? = some (rows.getD i.toNat []) := by rw [List.getD_eq_getElem?_getD, List.getElem?_eq_getElem hj]; rfl
  exact h.2 _ (List.mem_of_getElem? e)
def numT (tab : List (List Int)) (ns : List Int) : Tr → Int
  | .leaf n => ns.getD n.toNat 0
  | .node l r => (tab.getD (numT tab ns l).toNat []).getD (numT tab ns r).toNat 0
def shT (ds tab : List (List Int)) (ns : List Int) : Tr → Int → List Int
  | .leaf _, v => [v]
  | .node l r, v => shT ds tab ns l v ++ shT ds tab ns r ((ds.getD (numT tab ns l).toNat []).getD v.toNat 0)
structure Fd (R : Nat) (tab : List (List Int)) (ns : List Int) : Prop where
  tab : TabOk R R tab
  ns : Rng R ns
theorem numT_rng {R : Nat} {tab : List (List Int)} {ns : List Int} (F : Fd R tab ns) : ∀ {t : Tr} {f : Int}, Ordd t f → 0 ≤ f → f + t.count ≤ ns.length → 0 ≤ numT tab ns t ∧ numT tab ns t < R
  | .leaf n, f, o, h0, h1 => by
    cases (show n = f from o)
    have h1' : n + 1 ≤ ns.length := h1
    exact rng_get F.ns h0 (by omega)
  | .node l r, f, o, h0, h1 => by
    have c1 := count_pos l
    have c2 := count_pos r
    have h1' : f + (l.count + r.count) ≤ ns.length := h1
    have a := numT_rng F o.1 h0 (by omega)
    have b := numT_rng F o.2 (by omega) (by omega)
    have z := rowOk F.tab a.1 a.2
    exact rng_get z.2 b.1 (by rw [z.1]; exact b.2)
theorem shT_len (ds tab : List (List Int)) (ns : List Int) : ∀ (t : Tr) (v : Int), ((shT ds tab ns t v).length : Int) = t.count
  | .leaf _, _ => rfl
  | .node l r, v => by
    show ((shT ds tab ns l v ++ shT ds tab ns r _).length : Int) = l.count + r.count
    rw [List.length_append, Int.natCast_add, shT_len ds tab ns l, shT_len ds tab ns r]
def sp_tree3 (N : Nat) (K : PySem.W.Frag) : Sp := sp3 fun x y z H Q => ∃ a f m, x = .ref a ∧ y = .int f ∧ z = .int m ∧ Pot H a ∧ 0 ≤ f ∧ 1 ≤ m ∧ m ≤ N ∧ f + m ≤ 100 ∧ ∀ y t H', Grow [a] H H' → Pot H' a → TreeAt K H' y t → Ordd t f → t.count = m → t.ht < m.toNat → t.Nums → Q y H'
theorem vac_tree3 {K : PySem.W.Frag} : ∀ vs H Q E, ¬ sp_tree3 0 K vs H Q E := by
  rintro vs H Q E ⟨x, y, z, _, a, f, m, _, _, _, _, _, h1, h2, _⟩
  omega
def sp_are_numbers (K : PySem.W.Frag) : Sp := sp2 fun x y H Q => ∃ ns m, BoardAt K H x ns ∧ y = .int m ∧ Rng m ns ∧ ns.length ≤ 1000 ∧ ∀ H', Grow [] H H' → Q (.bl true) H'
def sp_need_table (K : PySem.W.Frag) : Sp := sp1 fun x H Q => ∃ rows : List (List Int), RowsAt K H x rows ∧ 1 ≤ rows.length ∧ rows.length ≤ 60 ∧ TabOk rows.length rows.length rows ∧ ∀ H', Grow [] H H' → Q .non H'
def sp_need_numbers (K : PySem.W.Frag) : Sp := sp2 fun x y H Q => ∃ (rows : List (List Int)) (ns : List Int), RowsAt K H x rows ∧ BoardAt K H y ns ∧ Rng rows.length ns ∧ 1 ≤ ns.length ∧ ns.length ≤ 40 ∧ ∀ H', Grow [] H H' → Q .non H'
def sp_is_by_table (K : PySem.W.Frag) : Sp := sp1 fun x H Q => ∃ row : List Int, BoardAt K H x row ∧ 1 ≤ row.length ∧ row.length ≤ 5 ∧ Rng row.length row ∧ ∀ H', Grow [] H H' → Q (.bl true) H'
def sp_need_table_of (K : PySem.W.Frag) : Sp := sp2 fun x y H Q => ∃ (R M : Nat) (ds tab : List (List Int)), RowsAt K H x ds ∧ RowsAt K H y tab ∧ 1 ≤ R ∧ R ≤ 60 ∧ 1 ≤ M ∧ M ≤ 5 ∧ TabOk R M ds ∧ TabOk R R tab ∧ ∀ H', Grow [] H H' → Q .non H'
def sp_share_by (N : Nat) (K : PySem.W.Frag) : Sp := sp6 fun x y z u w k H Q => ∃ (R M : Nat) (ds tab : List (List Int)) (ns : List Int) (t : Tr) (f v : Int) (l : Addr) (zs : List Int), RowsAt K H x ds ∧ RowsAt K H y tab ∧ BoardAt K H z ns ∧ TreeAt K H u t ∧ Fd R tab ns ∧ TabOk R M ds ∧ Ordd t f ∧ 0 ≤ f ∧ f + t.count ≤ ns.length ∧ t.ht < N ∧ w = .int v ∧ 0 ≤ v ∧ v < M ∧ k = .ref l ∧ H l = some (.lst (zs.map V.int)) ∧ (zs.length : Int) + t.count ≤ 500 ∧ ∀ H', Grow [l] H H' → H' l = some (.lst ((zs ++ shT ds tab ns t v).map V.int)) → Q (.int (numT tab ns t)) H'
theorem vac_share_by {K : PySem.W.Frag} : ∀ vs H Q E, ¬ sp_share_by 0 K vs H Q E := by
  rintro vs H Q E ⟨x, y, z, u, w, k, _, R, M, ds, tab, ns, t, f, v, l, zs, _, _, _, _, _, _, _, _, _, h, _⟩
  omega
def sp_shared_by (K : PySem.W.Frag) : Sp := sp5 fun x y z u w H Q => ∃ (R M : Nat) (ds tab : List (List Int)) (ns : List Int) (t : Tr) (v : Int), RowsAt K H x ds ∧ RowsAt K H y tab ∧ BoardAt K H z ns ∧ TreeAt K H u t ∧ Fd R tab ns ∧ TabOk R M ds ∧ 1 ≤ R ∧ R ≤ 60 ∧ 1 ≤ M ∧ M ≤ 5 ∧ Ordd t 0 ∧ t.count = ns.length ∧ ns.length ≤ 40 ∧ t.ht < 41 ∧ w = .int v ∧ 0 ≤ v ∧ v < M ∧ ∀ y H', Grow [] H H' → BoardAt K H' y (shT ds tab ns t v) → Q y H'
end L3

namespace L3
open PySem PySem.Spec PyProof.Rows L2
section
variable {prog : Program} {w : World} {A : Around} {E : Value → Shared → Prop} {s : Shared}
theorem nx_tup_item {jt t : Addr} {i : Nat} {vs : Array Value} {v : Value} {Q : Value → Shared → Prop} (hit : s.heap.IsTupleIter jt t i) (ht : s.heap.IsTuple t vs) (hv : vs[i]? = some v)
    (hQ : ∀ h', h'.IsTupleIter jt t (i + 1) → Heap.SameBut jt s.heap h' → Q v { s with heap := h' }) : wpAny (model prog w) A (Builtin.SmallTypes.nextOf (.ref jt)) Q E s := by
  obtain ⟨oj, hoj, cj, dj⟩ := id hit
  obtain ⟨ot, hot, _, nt, dt⟩ := ht
  unfold Builtin.SmallTypes.nextOf
  refine wpAny_bind (wpAny_callSpecial?_slot (name := Str.ofString "__next__") hit.typeIs F.slot_tuple_iterator_next (wpAny_call_entry F.slot_tuple_iterator_next hit.typeIs F.entry_tuple_iterator_next ?_ (F.args_tuple_iterator_next_1 _)))
  show wpAny _ _ (field (.ref jt) 0 >>= _) _ _ s
  refine wpAny_bind (wpAny_field hoj dj (x := .ref t) rfl ?_); show wpAny _ _ (if (Value.ref t == Value.none) = true then _ else _) _ _ s
  rw [if_neg (show ¬ ((Value.ref t == Value.none) = true) by exact Bool.false_ne_true)]; show wpAny _ _ (field (.ref jt) 1 >>= _) _ _ s
  refine wpAny_bind (wpAny_field hoj dj (x := .int i 0) rfl ?_); show wpAny _ _ (seqItems? (.ref t) >>= _) _ _ s
  refine wpAny_bind (wpAny_seqItems hot dt ?_); simp only [Int.toNat_natCast, hv]
  refine wpAny_bind (wpAny_setField hoj dj (by simp) (wpAny_pure ⟨v, rfl, wpAny_pure (hQ _ ⟨_, Heap.get?_update_self _ hoj (Obj.isFreed_of_fields (Obj.data_mapFields dj _)), (Obj.cls_mapFields ..).trans cj, by rw [Obj.data_mapFields dj]; simp [rawInt]⟩ (Heap.SameBut.update ..))⟩))
theorem nx_tup_end {jt t : Addr} {i : Nat} {vs : Array Value} {Q : Value → Shared → Prop} (hh : A.handled = none) (hit : s.heap.IsTupleIter jt t i) (ht : s.heap.IsTuple t vs) (hv : vs[i]? = none)
    (hE : ∀ h' e, Heap.ExtBut jt s.heap h' → (∃ o, h'.get? e = some o ∧ o.cls = .type "StopIteration") → E (.ref e) { s with heap := h' }) : wpAny (model prog w) A (Builtin.SmallTypes.nextOf (.ref jt)) Q E s := by
  obtain ⟨oj, hoj, cj, dj⟩ := id hit
  obtain ⟨ot, hot, _, nt, dt⟩ := ht
  unfold Builtin.SmallTypes.nextOf
  refine wpAny_bind (wpAny_callSpecial?_slot (name := Str.ofString "__next__") hit.typeIs F.slot_tuple_iterator_next (wpAny_call_entry F.slot_tuple_iterator_next hit.typeIs F.entry_tuple_iterator_next ?_ (F.args_tuple_iterator_next_1 _)))
  show wpAny _ _ (field (.ref jt) 0 >>= _) _ _ s
  refine wpAny_bind (wpAny_field hoj dj (x := .ref t) rfl ?_); show wpAny _ _ (if (Value.ref t == Value.none) = true then _ else _) _ _ s
  rw [if_neg (show ¬ ((Value.ref t == Value.none) = true) by exact Bool.false_ne_true)]; show wpAny _ _ (field (.ref jt) 1 >>= _) _ _ s
  refine wpAny_bind (wpAny_field hoj dj (x := .int i 0) rfl ?_); show wpAny _ _ (seqItems? (.ref t) >>= _) _ _ s
  refine wpAny_bind (wpAny_seqItems hot dt ?_); simp only [Int.toNat_natCast, hv]
  refine wpAny_bind (wpAny_rule (wpAny_bind (wpAny_setField hoj dj (by simp) ?_))); show wpAny _ _ (newExc (.type "StopIteration") [] >>= _) _ _ _
  refine wpAny_bind ?_; simp only [newExc, newTuple]
  refine wpAny_bind (wpAny_newObj_type ?_ (by size_fits)); refine wpAny_bind (m := firstArgMember _ _) (wpAny_of_eq (a := Value.none) (by first | rfl | (simp only [firstArgMember]; rfl)) ?_)
  refine wpAny_newObj_type ?_ (by size_fits); simp only [raiseNew]
  refine wpAny_bind (wpAny_handled ?_); (first | rw [show A.in1.handled = none from hh] | rw [hh])
  exact wpAny_bind (wpAny_pure (wpAny_throw (hE _ _ (((Heap.SameBut.update ..).extBut.push _).push _) ⟨_, Heap.get?_push_size _ rfl, rfl⟩)))
end
theorem draws_tup {prog : Program} {w : World} {A : Around} (hh : A.handled = none) (jt t : Addr) (hne : t ≠ jt) (vs : Array Value) :
    Draws prog w A jt [jt, t] vs.size (fun i v => vs[i]? = some v) (fun i h => h.IsTupleIter jt t i ∧ h.IsTuple t vs) where
  live := fun _ _ st => let ⟨o, ho, _⟩ := st.1; ⟨o, ho⟩
  frame := fun _ _ _ st hk => ⟨st.1.at (hk jt (by simp)), st.2.at (hk t (by simp))⟩
  item := fun i s Q E hi st hQ => nx_tup_item st.1 st.2 (v := vs[i]) (by simp [hi]) fun h' hit' hs' => hQ _ h' s.toks (by simp [hi]) ⟨hit', st.2.extBut hs'.extBut hne⟩ hs'
  done := fun s Q E st hE => nx_tup_end hh st.1 st.2 (by simp) hE
theorem draws_end {prog : Program} {w : World} {A : Around} (hh : A.handled = none) (jt t : Addr) (vs : Array Value) {i : Nat} (hv : vs[i]? = none) :
    Draws prog w A jt [jt, t] i (fun _ _ => True) (fun j h => j = i ∧ h.IsTupleIter jt t i ∧ h.IsTuple t vs) where
  live := fun _ _ st => let ⟨o, ho, _⟩ := st.2.1; ⟨o, ho⟩
  frame := fun _ _ _ st hk => ⟨st.1, st.2.1.at (hk jt (by simp)), st.2.2.at (hk t (by simp))⟩
  item := fun j s Q E hj st hQ => absurd st.1 (Nat.ne_of_lt hj)
  done := fun s Q E st hE => nx_tup_end hh st.2.1 st.2.2 hv hE
section
variable {prog : Program} {w : World} {A : Around} {E : Value → Shared → Prop} {s : Shared}
open AutoSeq1 (wpAny_loadPart')
end
section
variable {X : Cx} {pins : List (Addr × Obj)} {σ : L2.St} {H : Hp} {s : Shared} {h' : Heap}
theorem turnedL {fp : List Addr} {t' : Nat} (I : Inv X pins σ H s) (k : ∀ b o, b ∉ fp → s.heap.get? b = some o → h'.get? b = some o) (ff : ∀ b ∈ fp, FpOk X pins H b) : Inv X pins σ H { s with heap := h', toks := t' } := by
  have nit : ∀ b u, H b = some u → b ∉ fp := fun b u e z => by rw [(ff b z).1] at e; cases e
  refine I.step (g' := s.gens) (d' := s.drawn) (ch := fp) (fun b hb => ?_) (fun b o _ _ hc e _ => k b o hc e) (fun b o _ _ hc e _ => ⟨o.slots, k b o hc e⟩) (fun _ _ _ _ n => n) (fun b o hc e => ⟨o, k b o hc e⟩) (fun _ _ e => e) (fun _ _ _ e => e) (fun b ps e => ⟨#[], by rw [e]; simp⟩) (fun m hm => ?_) (fun b u e => ?_) I.bare
  · obtain ⟨_, f1, _, f3, f4, f5⟩ := ff b hb
    exact ⟨f3, f1, f4, f5⟩
  · obtain ⟨o, es, ep, ho, r⟩ := hm
    exact ⟨o, es, ep, k _ o (fun z => (ff _ z).2.1 rfl) ho, r⟩
  · refine (I.hok b u e).stay (fun c v hc q => k c v ?_ q) (fun _ q => q) fun _ _ q => q
    rcases hc with z | z
    · rw [z]; exact nit b u e
    · exact nit c _ z
theorem turnLaid {fp : List Addr} {T : Addr} {o : HO} {t' : Nat} (I : Inv X pins σ H s) (k : ∀ b o, b ∉ fp → s.heap.get? b = some o → h'.get? b = some o) (ff : ∀ b ∈ fp, FpOk X pins H b) (hT : s.heap.objs.size ≤ T)
    (new : ObjOk X.prog X.w (upd H T o) h' T o) : Inv X pins σ (upd H T o) { s with heap := h', toks := t' } := by
  have hn : H T = none := I.hok.fresh hT
  have I1 : Inv X pins σ H { s with heap := h', toks := t' } := turnedL I k ff
  have hok : HOk X.prog X.w (upd H T o) h' := HOk.track I1.hok hn new
  refine I.step (g' := s.gens) (d' := s.drawn) (ch := fp) (fun b hb => ?_) (fun b o _ _ hc e _ => k b o hc e) (fun b o _ _ hc e _ => ⟨o.slots, k b o hc e⟩) (fun b u _ e n => by rw [upd_ne (Nat.ne_of_lt (Nat.lt_of_lt_of_le (Heap.lt_size e) hT))]; exact n) (fun b o hc e => ⟨o, k b o hc e⟩)
    (fun b xs e => by rw [upd_ne (ne_of_none e hn)]; exact e) (fun b u xs e => by rw [upd_ne (ne_of_none e hn)]; exact e) (fun b ps e => ⟨#[], by rw [upd_ne (ne_of_none e hn), e]; simp⟩) (fun m hm => ?_) hok I.bare
  · obtain ⟨_, f1, _, f3, f4, f5⟩ := ff b hb
    exact ⟨f3, f1, f4, f5⟩
  · obtain ⟨o, es, ep, ho, r⟩ := hm
    exact ⟨o, es, ep, k _ o (fun z => (ff _ z).2.1 rfl) ho, r⟩
end
def Ite (K : PySem.W.Frag) (a : Addr) : It :=
  ⟨fun i H => ∃ xs x, SqT K H a xs ∧ xs[i]? = some x, fun i H x H' => ∃ T v, H T = none ∧ x = .ref T ∧ H' = upd H T (.tup [.int i, v]) ∧ ∀ xs, SqT K H a xs → xs[i]? = some v, fun i H => ∃ xs, SqT K H a xs ∧ xs.length ≤ i⟩
section
variable {X : Cx} {elts : List Expr} {kt : Nat} {pt : Pos}
theorem b_enum : bootBuiltins "enumerate" = some (.type "enumerate") := by decide +kernel
end
theorem for_enum {K : PySem.W.Frag} {a : Addr} {xs : List V} {g : TG} {tb : TS} {D : Ends} {σ : L2.St} {H : Hp} (Pv : Nat → L2.St → Hp → Prop) (h0 : Pv 0 σ H) (hl : ∀ i σ H, i ≤ xs.length → Pv i σ H → SqT K H a xs)
    (hs : ∀ i x σ H T, xs[i]? = some x → Pv i σ H → H T = none → g (.ref T) σ (upd H T (.tup [.int i, x])) fun σ2 H2 => tb { D with nx := Pv (i + 1), ct := Pv (i + 1), bk := D.nx } σ2 H2) (hd : ∀ σ H, Pv xs.length σ H → D.nx σ H) :
    ∃ W : Nat → Nat → L2.St → Hp → Prop, (∃ m, W 0 m σ H) ∧ ∀ i m σ H, W i m σ H →
      ((Ite K a).stop i H ∧ D.nx σ H) ∨ ((Ite K a).go i H ∧ ∃ N : L2.St → Hp → Prop, (∀ σ' H', N σ' H' → ∃ m', m' < m ∧ W (i + 1) m' σ' H') ∧ ∀ x H', (Ite K a).yld i H x H' → g x σ H' fun σ2 H2 => tb { D with nx := N, ct := N, bk := D.nx } σ2 H2) := by
  refine ⟨fun i m σ H => m = xs.length - i ∧ i ≤ xs.length ∧ Pv i σ H, ⟨xs.length, by simp, Nat.zero_le _, h0⟩, ?_⟩
  rintro i m σ H ⟨rfl, hi, p⟩
  have q := hl i σ H hi p
  by_cases hlt : i < xs.length
  · refine .inr ⟨⟨xs, xs[i], q, by simp [hlt]⟩, Pv (i + 1), fun σ' H' p' => ⟨xs.length - (i + 1), by omega, rfl, hlt, p'⟩, fun x H' y => ?_⟩
    obtain ⟨T, v, hT, rfl, rfl, y⟩ := y
    exact hs i v σ H T (y xs q) p hT
  · have e : i = xs.length := by omega
    subst e
    exact .inl ⟨⟨xs, q, Nat.le_refl _⟩, hd σ H p⟩
end L3

namespace L3
open PySem PySem.Spec PyProof.Rows L2
theorem getDd {ds : List Deed} {i : Nat} (h : i < ds.length) : ds[i]? = some (ds.getD i look) := by
  rw [List.getD_eq_getElem?_getD, List.getElem?_eq_getElem h]; rfl
def atBox (j : Int) (ks : List Ask) : List Deed := (ks.filter fun k => decide (k.box = j)).map Ask.deed
structure GInv (b : List Int) (ks : List Ask) (g : List Deed × List Deed) (p : List Int × List Int) : Prop where
  l1 : g.1.length = b.length
  l2 : g.2.length = ks.length
  p1 : p.1.length = ks.length
  p2 : p.2.length = b.length
  bd1 : ∀ d ∈ g.1, d.Ok ∧ d.Bd (ks.length * 10 ^ 30)
  bd2 : ∀ d ∈ g.2, d.Ok ∧ d.Bd (ks.length * 10 ^ 30)
  run : ∀ j : Nat, j < b.length → g.1.getD j look = runD (atBox j ks)
  val : ∀ j : Nat, j < b.length → p.2.getD j 0 = (g.1.getD j look).mk' (b.getD j 0)
  ans : ∀ i k, ks[i]? = some k → p.1.getD i 0 = (g.2.getD i look).mk' (b.getD k.box.toNat 0)
theorem AllR.set {α : Type} {R : V → α → Prop} {x : V} {k : α} (h : R x k) : ∀ {xs : List V} {ks : List α} {n : Nat}, AllR R xs ks → AllR R (xs.set n x) (ks.set n k)
  | [], [], n, _ => by cases n <;> trivial
  | _ :: _, _ :: _, 0, ⟨_, t⟩ => ⟨h, t⟩
  | _ :: _, _ :: _, n + 1, ⟨a, t⟩ => ⟨a, AllR.set h t⟩
  | [], _ :: _, _, z => z.elim
  | _ :: _, [], _, z => z.elim
def GathAt (K : PySem.W.Frag) (H : Hp) (x : V) (g : List Deed × List Deed) : Prop := ∃ r r1 r2, x = .ref r ∧ SqT K H r [.ref r1, .ref r2] ∧ DeedsT K H (.ref r1) g.1 ∧ DeedsT K H (.ref r2) g.2
section
variable {K : PySem.W.Frag} {a : Addr} {xs : List V} {k : Nat} {tt : TT} {te : TE} {Q : VK} {σ : L2.St} {H : Hp}
theorem comp_tupPT (p : V → Bool) (Pv : Nat → List V → Hp → Prop) (h0 : Pv 0 [] H) (hl : ∀ i ys H', Pv i ys H' → SqT K H' a xs)
    (ht : ∀ x H' (R : Bool → Hp → Prop), x ∈ xs → R (p x) H' → tt (σ.set k (some x)) H' R)
    (hs : ∀ i x ys H', xs[i]? = some x → Pv i ys H' → p x = true → te (σ.set k (some x)) H' fun y H5 => ys.length < sizeLine ∧ Pv (i + 1) (ys ++ [y]) H5)
    (hn : ∀ i x ys H', xs[i]? = some x → Pv i ys H' → p x = false → Pv (i + 1) ys H')
    (hd : ∀ ys H', Pv xs.length ys H' → ∀ l, H' l = none → Q (.ref l) (upd H' l (.lst ys))) : CompW (Itt K a) σ H (gName k) tt te Q := by
  refine comp_tup (xs := xs) (fun i ys σ' H' => (σ' = σ ∨ ∃ e, σ' = σ.set k e) ∧ Pv i ys H') ⟨.inl rfl, h0⟩ (fun i ys σ' H' _ p => hl i ys H' p.2) ?_ (fun ys σ' H' p l hl => hd ys H' p.2 l hl)
  rintro i x ys σ' H' hx ⟨hσ, pv⟩
  have e : σ'.set k (some x) = σ.set k (some x) := by
    rcases hσ with rfl | ⟨e, rfl⟩
    · rfl
    · rw [List.set_set]
  show tt (σ'.set k (some x)) H' _
  rw [e]
  refine ht x H' _ (List.mem_of_getElem? hx) ?_
  by_cases c : p x = true
  · rw [if_pos c]
    have e2 : (fun (y : V) (H5 : Hp) => ys.length < sizeLine ∧ ((σ.set k (some x) = σ ∨ ∃ e, σ.set k (some x) = σ.set k e) ∧ Pv (i + 1) (ys ++ [y]) H5)) = fun y H5 => ys.length < sizeLine ∧ Pv (i + 1) (ys ++ [y]) H5 := by
      funext y H5
      exact propext ⟨fun z => ⟨z.1, z.2.2⟩, fun z => ⟨z.1, .inr ⟨_, rfl⟩, z.2⟩⟩
    have z := hs i x ys H' hx pv c
    rw [← e2] at z
    exact z
  · rw [if_neg c]
    exact ⟨.inr ⟨_, rfl⟩, hn i x ys H' hx pv (by simpa using c)⟩
end
section
variable {K : PySem.W.Frag} {a : Addr} {xs : List V} {k : Nat} {tt : TT} {te : TE} {Q : VK} {σ : L2.St} {H : Hp}
end
end L3

namespace L3
open PySem PySem.Spec PyProof.Rows L2
def figI (k st l : Int) : Int := Builtin.bitAnd (l / 2 ^ (k - st).toNat) 1
def wfI (k st l w : Int) : Int := Builtin.bitXor l (Builtin.bitXor (figI k st l) w * 2 ^ (k - st).toNat)
def swI (k st l : Int) : Int := Builtin.bitOr (l / 2 ^ (k - st + 1).toNat * 2 ^ (k - st).toNat) (Builtin.bitAnd l (1 * 2 ^ (k - st).toNat - 1))
def figsL (k n : Int) : List Int := (List.range k.toNat).map fun i : Nat => Builtin.bitAnd (n / 2 ^ (k - 1 - (0 + (i : Int))).toNat) 1
def numL (xs : List Int) : Int := xs.foldl (fun f o => 2 * f + o) 0
def lineL (k h g : Int) (n : Nat) : Int := numL ((figsL k g).take n ++ (figsL k h).drop n)
def numsL (k l : Int) (st : Nat) : Int := numL ((figsL k l).take (st - 1) ++ (figsL k l).drop st)
end L3

namespace L3
open PySem PySem.Spec PyProof.Rows L2
section
variable {X : Cx}
end
end L3

namespace L3
open PySem PySem.Spec PyProof.Rows L2
section
variable {prog : Program} {w : World} {A : Around} {R : Result → Shared → Prop} {s : Shared}
variable {elt t0 i0 t1 i1 : Expr} {ifs : List Expr} {scope : Scope} {pos : Pos} {it acc : Value} {env : Env}
end
section
variable {Y : Cx} {pins : List (Addr × Obj)} {D it2 : Addr} {fp2 : List Addr} {tn2 : Nat → Heap → Prop} {J2 : It} {y : Str} {py pos : Pos} {elt t0 i0 i1 : Expr} {ifs : List Expr} {scope : Scope} {g1 : TG} {tt : TT} {te : TE} {Out : List V → L2.St → Hp → Prop} {W : Nat → Nat → List V → L2.St → Hp → Prop} {R : Result → Shared → Prop}
end
section
variable {X : Cx} {pins : List (Addr × Obj)} {σ : L2.St} {H2 : Hp} {s₂ : Shared} {it : Addr} {fp : List Addr} {tn : Nat → Heap → Prop} {J : It} {scope : Scope} {cl : List (Str × Addr)} {N' : List Str} {sub : List (Option Nat)}
end
end L3

namespace L3
open PySem PySem.Spec PyProof.Rows L2
section
variable {X : Cx} {pins : List (Addr × Obj)} {σ : L2.St} {H2 : Hp} {s₂ : Shared} {it : Addr} {fp : List Addr} {tn : Nat → Heap → Prop} {J : It} {scope : Scope} {cl : List (Str × Addr)} {N' : List Str} {sub : List (Option Nat)}
end
section
variable {X : Cx} {scope : Scope} {N' : List Str} {sub : List (Option Nat)} {x y : Str} {px py pos : Pos} {elt i0 i1 : Expr} {ifs : List Expr} {wi wi1 : TI} {g0 g1 : TG} {tt : TT} {te : TE}
end
end L3

namespace L3
open PySem PySem.Spec PyProof.Rows L2
section
variable {X : Cx}
end
end L3

namespace L3
open PySem PySem.Spec PyProof.Rows L2
theorem pi_tupK {X : Cx} {K : PySem.W.Frag} {tg l : Expr} {tl : TE} (h : X.K = K) (hl : PE X l tl) : PI X tg l (iTup K tl) := by subst h; exact pi_tup hl
theorem nv {i j : Int} (h : i ≠ j) : decide (V.int i = V.int j) = false := decide_eq_false fun z => h (V.int.inj z)
theorem Deed.Sm.bd2 {d : Deed} (h : d.Sm) : d.Bd (2 * 10 ^ 30) := h.bd.mono (by decide)
end L3

namespace L3
open PySem PySem.Spec PyProof.Rows L2
section
variable {X : Cx} {pins : List (Addr × Obj)} {σ : L2.St} {H2 : Hp} {s₂ : Shared} {it : Addr} {fp : List Addr} {tn : Nat → Heap → Prop} {J : It} {scope : Scope} {cl : List (Str × Addr)} {N' : List Str} {sub : List (Option Nat)}
theorem comp_runT {C D : Addr} {s₀ : Shared} {tg : Expr} {pos : Pos} {elt iter : Expr} {ifs : List Expr} {g : TG} {tt : TT} {te : TE} {Q : VK} {RR : Value → Addr → Result → Shared → Prop} {W : Nat → Nat → List V → L2.St → Hp → Prop}
    (I : Inv X pins σ H2 s₂) (hcalm : X.calm = true) (T : Turn X.prog X.w X.K tg J fp it tn) (f2 : ∀ b ∈ fp, FpOk X pins H2 b) (hfp : ∀ b ∈ fp, b < s₂.heap.objs.size)
    (hs₀ : ∀ b o, s₂.heap.get? b = some o → s₀.heap.get? b = some o) (hos : s₀.os = s₂.os) (hD : s₂.heap.objs.size ≤ D) (hC : s₂.heap.objs.size ≤ C) (hDC : D ≠ C)
    (hcl1 : ∀ x c, cl.lookup x = some c → X.env.cells.lookup x = some c)
    (hg : PG (cxC X N' scope cl C D fp s₀ H2) tg g) (ht : PIfs (cxC X N' scope cl C D fp s₀ H2) ifs tt) (he : PE (cxC X N' scope cl C D fp s₀ H2) elt te)
    (turn : ∀ i m ys σ' H', W i m ys σ' H' →
      (J.stop i H' ∧ ∀ l, H' l = none → Q (.ref l) (upd H' l (.lst ys))) ∨
      (J.go i H' ∧ ∃ Nn : List V → L2.St → Hp → Prop, (∀ zs σ2 H2, Nn zs σ2 H2 → ∃ m', m' < m ∧ W (i + 1) m' zs σ2 H2) ∧
        ∀ x H2, J.yld i H' x H2 → g x σ' H2 fun σ2 H3 => tt σ2 H3 fun b H4 => if b = true then te σ2 H4 fun y H5 => ys.length < sizeLine ∧ Nn (ys ++ [y]) σ2 H5 else Nn ys σ2 H4))
    (hRR : ∀ (D C : Addr) (oC : Obj) (m : Str → Option Value) (s' : Shared) (Hf : Hp), Inv X (pins ++ [(C, oC)]) σ Hf s' → s'.heap.Ns C m → FpOk X pins Hf C → Q (.ref D) Hf → RR (.ref D) C (.ok .next) s')
    (n : Nat) (s : Shared) (h : ∃ i ys us k σ' H', Inv (cxC X N' scope cl C D fp s₀ H2) pins σ' H' s ∧ tn i s.heap ∧ (∀ b ∈ fp, H' b = none) ∧ H' D = none ∧
      s.heap.get? D = some { cls := .type "list", data := .seq (us : List Value).toArray k } ∧ Vals ys us ∧ ys.length ≤ sizeLine ∧ W i n ys σ' H') :
    codeAny (model X.prog X.w) X.A (.compLoop (.ListComp elt [⟨tg, iter, ifs, 0⟩] scope pos) 0 (.ref it) (.ref D) (compEnvC scope cl C X.env)) (RR (.ref D) C) s := by
  have frsz : ∀ b ∈ frs X.stack, b < s₂.heap.objs.size := fun b hb => by
    rcases List.mem_cons.mp (I.stkSub b hb) with z | z
    · rw [z]; exact I.lt
    · exact Nat.lt_of_not_le fun q => I.nofs q z
  have cells : ∀ x c, cl.lookup x = some c → c < s₂.heap.objs.size := fun x c e => let ⟨v, q⟩ := I.cell x c (hcl1 x c e); q.lt
  have pinsz : ∀ p ∈ X.pn ++ pins, p.1 < s₂.heap.objs.size := fun p hp => Heap.lt_size (I.pin p hp).1
  refine comp_loop (fun n s => ∃ i ys us k σ' H', Inv (cxC X N' scope cl C D fp s₀ H2) pins σ' H' s ∧ tn i s.heap ∧ (∀ b ∈ fp, H' b = none) ∧ H' D = none ∧
      s.heap.get? D = some { cls := .type "list", data := .seq (us : List Value).toArray k } ∧ Vals ys us ∧ ys.length ≤ sizeLine ∧ W i n ys σ' H') ?_ n h
  rintro n s ⟨i, ys, us, k, σ', H', I', st', fr, hn, hy, rv, hz, w'⟩
  have pD : Inv (cxC X N' scope cl C D fp s₀ H2) (pins ++ [(D, { cls := .type "list", data := .seq us.toArray k })]) σ' H' s := I'.pins_of fun p hp => by
    rcases List.mem_append.mp hp with hp | hp
    · exact I'.pin p (List.mem_append_right _ hp)
    · rw [List.mem_singleton.mp hp]
      exact ⟨hy, hn, hDC, fun z => absurd (Nat.lt_of_lt_of_le (frsz _ z) hD) (Nat.lt_irrefl _), fun v z => by cases z⟩
  have fpok : ∀ {H'' : Hp}, (∀ b ∈ fp, H'' b = none) → ∀ b ∈ fp, FpOk (cxC X N' scope cl C D fp s₀ H2) (pins ++ [(D, { cls := .type "list", data := .seq us.toArray k })]) H'' b := fun hz b hb => by
    refine ⟨hz b hb, Nat.ne_of_lt (Nat.lt_of_lt_of_le (hfp b hb) hC), fun z => ?_, .inl (List.mem_cons_of_mem _ hb), fun x c e => (f2 b hb).2.2.2.2.1 x c (hcl1 x c e), fun p hp => ?_⟩
    · rcases List.mem_cons.mp (I.stkSub b z) with z | z
      · exact (f2 b hb).2.1 z
      · exact (f2 b hb).2.2.1 z
    · rcases List.mem_append.mp hp with hp | hp
      · exact (f2 b hb).2.2.2.2.2 p (List.mem_append_left _ hp)
      · rcases List.mem_append.mp hp with hp | hp
        · exact (f2 b hb).2.2.2.2.2 p (List.mem_append_right _ hp)
        · rw [List.mem_singleton.mp hp]
          exact Nat.ne_of_gt (Nat.lt_of_lt_of_le (hfp b hb) hD)
  rcases turn i n ys σ' H' w' with ⟨stop, q⟩ | ⟨go, Nn, hN, step⟩
  · refine thn (T.done (cxC X N' scope cl C D fp s₀ H2) rfl rfl rfl hcalm i _ s σ' H' (fun _ _ => False) pD (fpok fr) st' stop) fun r s1 ⟨hr, I1⟩ => ?_
    subst hr
    have hy1 := (I1.pin (D, { cls := .type "list", data := .seq us.toArray k }) (by simp)).1
    obtain ⟨m, hm, _⟩ := I1.loc
    obtain ⟨oC, es, ep, hoC, hdC, _⟩ := id hm
    obtain ⟨IX, fpc⟩ := comp_fin I hs₀ hos hD hC hDC f2 I1.unpinned hn hy1 rv hz hoC (by intro v z; rw [hdC] at z; cases z)
    exact hRR D C oC m s1 _ IX hm fpc (q D hn)
  · refine thn (T.item (cxC X N' scope cl C D fp s₀ H2) rfl rfl rfl hcalm i _ s σ' H' (fun _ _ => False) pD (fpok fr) st' go) fun r s1 ⟨u, hr, h4⟩ => ?_
    subst hr
    refine thn h4 fun _ s2 ⟨x5, H5, I5, r5, y5, st5, fr5⟩ => ?_
    have I5' := I5.pinned (fpok fr5) (T.obj _ _ st5)
    refine thn (hg _ s2 σ' H5 x5 u _ I5' r5 (step x5 H5 y5)) fun _ s3 ⟨σ6, H6, I6, q6⟩ => ?_
    refine thn (ht _ s3 σ6 H6 _ I6 q6) fun ok s4 ⟨H7, I7, q7⟩ => ?_
    have stay : ∀ {σ7 : L2.St} {H7 : Hp} {s7 : Shared}, Inv (cxC X N' scope cl C D fp s₀ H2) (pins ++ [(D, { cls := .type "list", data := .seq us.toArray k })] ++ pinsAt fp s2.heap) σ7 H7 s7 →
        (∀ b ∈ fp, ∀ o, s2.heap.get? b = some o → s7.heap.get? b = some o) ∧ (∀ b ∈ fp, H7 b = none) ∧ H7 D = none ∧ s7.heap.get? D = some { cls := .type "list", data := .seq us.toArray k } := fun {σ7 H7 s7} I7 => by
      have d := I7.pin (D, { cls := .type "list", data := .seq us.toArray k }) (by simp)
      refine ⟨fun b hb o e => (I7.pin (b, o) (List.mem_append_right _ (List.mem_append_right _ (mem_pinsAt hb e)))).1, fun b hb => ?_, d.2.1, d.1⟩
      obtain ⟨o, e, _⟩ := T.obj _ _ st5 b hb
      exact (I7.pin (b, o) (List.mem_append_right _ (List.mem_append_right _ (mem_pinsAt hb e)))).2.1
    cases ok with
    | false =>
      rw [if_neg (by decide)] at q7 ⊢
      obtain ⟨k1, k2, k3, k4⟩ := stay I7
      obtain ⟨m', hm, w7⟩ := hN ys σ6 H7 q7
      exact ⟨m', hm, i + 1, ys, us, k, σ6, H7, I7.unpinned.unpinned, T.keep _ _ _ st5 k1, k2, k3, k4, rv, hz, w7⟩
    | true =>
      rw [if_pos rfl] at q7 ⊢
      refine thn (he _ s4 σ6 H7 _ I7 q7) fun v s5 ⟨y, H8, I8, r8, hl8, n8⟩ => ?_
      obtain ⟨k1, k2, k3, k4⟩ := stay I8
      refine wpAny_list_append_plain (l := D) ⟨k, k4⟩ (fun h' pl sb => ?_) (by rw [List.size_toArray, ← rv.length]; exact hz)
      obtain ⟨k', e'⟩ := pl
      obtain ⟨m', hm, w8⟩ := hN _ σ6 H8 n8
      refine ⟨m', hm, i + 1, ys ++ [y], us ++ [v], k', σ6, H8, ?_, T.keep _ _ _ (T.keep _ _ _ st5 k1) fun b hb o e => sb.extBut b o (Nat.ne_of_lt (Nat.lt_of_lt_of_le (hfp b hb) hD)) e, k2, k3, ?_, rv.append (.cons r8 .nil), ?_, w8⟩
      · exact (I8.unpinned.unpinned).turned (it := D) (t' := s5.toks) (h' := h') (fun b o hb e => sb.extBut b o hb e) k3 hDC (.inl (by simp)) (fun x c e => Nat.ne_of_lt (Nat.lt_of_lt_of_le (cells x c e) hD)) (fun p hp => Nat.ne_of_lt (Nat.lt_of_lt_of_le (pinsz p hp) hD))
      · rw [e']; simp
      · rw [List.length_append]; exact hl8
theorem comp_blockT {tg : Expr} {pos : Pos} {elt iter : Expr} {ifs : List Expr} {g : TG} {tt : TT} {te : TE} {E : Value → Shared → Prop} {Q : VK} {RR : Value → Addr → Result → Shared → Prop}
    (I : Inv X pins σ H2 s₂) (hcalm : X.calm = true) (T : Turn X.prog X.w X.K tg J fp it tn) (st : tn 0 s₂.heap) (f2 : ∀ b ∈ fp, FpOk X pins H2 b)
    (S : CSc X scope N' sub) (hcl1 : ∀ x c, cl.lookup x = some c → X.env.cells.lookup x = some c) (hcl2 : ∀ y ∈ scope.names, y.2 = .free → ∃ c, cl.lookup y.1 = some c)
    (hg : ∀ C D fp s H, PG (cxC X N' scope cl C D fp s H) tg g) (ht : ∀ C D fp s H, PIfs (cxC X N' scope cl C D fp s H) ifs tt) (he : ∀ C D fp s H, PE (cxC X N' scope cl C D fp s H) elt te)
    (hW : CompW J (capt sub σ) H2 g tt te Q)
    (hRR : ∀ (D C : Addr) (oC : Obj) (m : Str → Option Value) (s' : Shared) (Hf : Hp), Inv X (pins ++ [(C, oC)]) σ Hf s' → s'.heap.Ns C m → FpOk X pins Hf C → Q (.ref D) Hf → RR (.ref D) C (.ok .next) s') :
    wpAny (model X.prog X.w) X.A (newList []) (fun acc s₃ => wpAny (model X.prog X.w) X.A (newFunctionEnv scope X.env.globals cl [] X.env.qual none .none (some X.env)) (fun cenv s₄ =>
      codeAny (model X.prog X.w) X.A (.compStart (.ListComp elt [⟨tg, iter, ifs, 0⟩] scope pos) 0 (.ref it) acc { cenv with scope := relabel scope X.env }) (RR acc cenv.locals) s₄) E s₃) E s₂ := by
  obtain ⟨W, ⟨m0, w0⟩, turn⟩ := hW
  refine wpAny_newObj_type (wpAny_newFunctionEnv S.nocell (by intro y hy; simp at hy) (fun h₁ hns₁ hsb₁ => ?_) S.kind)
  dsimp only at hns₁ hsb₁ ⊢
  have hC : (s₂.heap.push { cls := .type "list", dict := none, data := .seq ([] : List Value).toArray }).objs.size = s₂.heap.objs.size + 1 := Heap.size_push ..
  rw [hC] at hns₁ hsb₁ ⊢
  have hk : ∀ b o, (s₂.heap.push { cls := .type "list", dict := none, data := .seq ([] : List Value).toArray }).get? b = some o → h₁.get? b = some o := fun b o e =>
    hsb₁.extBut b o (by have := Heap.lt_size e; rw [hC] at this; exact Nat.ne_of_lt this) (Heap.get?_push_of_some _ e)
  have hfp : ∀ b ∈ fp, b < s₂.heap.objs.size := fun b hb => by
    obtain ⟨o, e, _⟩ := T.obj _ _ st b hb
    exact Heap.lt_size e
  have I0 := comp_start (tk := s₂.toks + ([] : List (Str × Value)).length) I S hcl1 hcl2 f2 hfp hns₁ hk
  have hD0 : h₁.get? s₂.heap.objs.size = some { cls := .type "list", data := .seq ([] : List Value).toArray 0 } := hk _ _ (Heap.get?_push_size _ rfl)
  have loop : codeAny (model X.prog X.w) X.A (.compLoop (.ListComp elt [⟨tg, iter, ifs, 0⟩] scope pos) 0 (.ref it) (.ref s₂.heap.objs.size) (compEnvC scope cl (s₂.heap.objs.size + 1) X.env)) (RR (.ref s₂.heap.objs.size) (s₂.heap.objs.size + 1)) { s₂ with heap := h₁, toks := s₂.toks + ([] : List (Str × Value)).length } :=
    comp_runT (s₀ := { s₂ with heap := s₂.heap.push { cls := .type "list", dict := none, data := .seq ([] : List Value).toArray } }) (C := s₂.heap.objs.size + 1) (D := s₂.heap.objs.size) I hcalm T f2 hfp (fun b o e => Heap.get?_push_of_some _ e) rfl (Nat.le_refl _) (Nat.le_succ _) (Nat.ne_of_lt (Nat.lt_succ_self _)) hcl1 (hg _ _ _ _ _) (ht _ _ _ _ _) (he _ _ _ _ _) turn hRR m0 _
      ⟨0, [], [], 0, capt sub σ, H2, I0, T.keep _ _ _ st fun b hb o e => hk b o (Heap.get?_push_of_some _ e), fun b hb => (f2 b hb).1, I.hok.fresh (Nat.le_refl _), hD0, .nil, Nat.zero_le _, w0⟩
  exact codeAny_compStart_list loop (T.self _ _ _ _ _ (T.keep _ _ _ st fun b hb o e => hk b o (Heap.get?_push_of_some _ e)) loop)
end
section
variable {X : Cx} {scope : Scope} {N' : List Str} {sub : List (Option Nat)} {tg : Expr} {pos : Pos} {elt iter : Expr} {ifs : List Expr} {wi : TI} {g : TG} {tt : TT} {te : TE}
theorem pe_compT (S : CSc X scope N' sub) (hcalm : X.calm = true) (hi : PI X tg iter wi)
    (hg : ∀ cl C D fp s H, PG (cxC X N' scope cl C D fp s H) tg g) (ht : ∀ cl C D fp s H, PIfs (cxC X N' scope cl C D fp s H) ifs tt) (he : ∀ cl C D fp s H, PE (cxC X N' scope cl C D fp s H) elt te)
    (hs : ∀ x, foldedSetIterable iter X.env x = pure x := by intro _; rfl) : PE X (.ListComp elt [⟨tg, iter, ifs, 0⟩] scope pos) (tComp wi sub g tt te) := by
  intro pins s σ H Q I h
  obtain ⟨cl, hclos, hcl1, hcl2⟩ := S.clos I
  rw [eval_ListComp]
  refine wpAny_comprehension_free (use := none) rfl hs hclos S.kind S.names (thn (hi pins s σ H _ I h) fun v s1 h1 => thn h1 fun itv s2 h2 => ?_)
  obtain ⟨it, fp, tn, J, H2, e, I2, T, st2, f2, hW⟩ := h2
  subst e
  refine comp_blockT (RR := fun acc C => compPost (model X.prog X.w) X.A X.xe none (EP X pins σ Q) acc C) I2 hcalm T st2 f2 S hcl1 hcl2 (hg cl) (ht cl) (he cl) hW ?_
  intro D C oC m s' Hf IX hm fpc q
  refine ⟨m, hm, fun h' sb => ⟨.ref D, Hf, ?_, rfl, q⟩⟩
  exact (IX.unpinned).turned (it := C) (t' := s'.toks) (h' := h') (fun b o hb e => sb.extBut b o hb e) fpc.1 fpc.2.1 fpc.2.2.2.1 fpc.2.2.2.2.1 fpc.2.2.2.2.2
end
end L3

namespace L3
open PySem PySem.Spec PyProof.Rows L2
section
variable {prog : Program} {w : World} {A : Around} {E : Value → Shared → Prop} {s : Shared}
theorem zip_f0 {h : Heap} {z TI TO : Addr} {f0 : Value} (hz : IsZip h z TI TO f0) (v : Value) : IsZip (h.update z (Obj.mapFields fun x => x.setIfInBounds 0 v)) z TI TO v ∧ Heap.SameBut z h (h.update z (Obj.mapFields fun x => x.setIfInBounds 0 v)) :=
  ⟨Heap.get?_update_self _ hz rfl, Heap.SameBut.update ..⟩
theorem zip_f1 {h : Heap} {z TI TO : Addr} {f0 : Value} (hz : IsZip h z TI TO f0) : IsZip (h.update z (Obj.mapFields fun x => x.setIfInBounds 1 (.bool false))) z TI TO f0 ∧ Heap.SameBut z h (h.update z (Obj.mapFields fun x => x.setIfInBounds 1 (.bool false))) :=
  ⟨Heap.get?_update_self _ hz rfl, Heap.SameBut.update ..⟩
theorem pair_0 {h : Heap} {T : Addr} {a b : Value} (hp : IsPair h T a b) (v : Value) : IsPair (h.update T (Obj.mapSeq fun x => x.setIfInBounds 0 v)) T v b ∧ Heap.SameBut T h (h.update T (Obj.mapSeq fun x => x.setIfInBounds 0 v)) :=
  ⟨Heap.get?_update_self _ hp rfl, Heap.SameBut.update ..⟩
theorem pair_1 {h : Heap} {T : Addr} {a b : Value} (hp : IsPair h T a b) (v : Value) : IsPair (h.update T (Obj.mapSeq fun x => x.setIfInBounds 1 v)) T a v ∧ Heap.SameBut T h (h.update T (Obj.mapSeq fun x => x.setIfInBounds 1 v)) :=
  ⟨Heap.get?_update_self _ hp rfl, Heap.SameBut.update ..⟩
theorem zip_itemD {z TI TO i1 i2 : Addr} {fp1 fp2 : List Addr} {n1 n2 i : Nat} {P1 P2 : Nat → Value → Prop} {St1 St2 : Nat → Heap → Prop} {a b : Value} {Q : Value → Shared → Prop}
    (D1 : Draws prog w A i1 fp1 n1 P1 St1) (D2 : Draws prog w A i2 fp2 n2 P2 St2)
    (hz : IsZip s.heap z TI TO .none) (hI : IsPair s.heap TI (.ref i1) (.ref i2)) (hO : IsPair s.heap TO a b) (st1 : St1 i s.heap) (st2 : St2 i s.heap) (l1 : i < n1) (l2 : i < n2)
    (z1 : z ∉ fp1) (z2 : z ∉ fp2) (o1 : TO ∉ fp1) (o2 : TO ∉ fp2) (x12 : i2 ∉ fp1) (x21 : i1 ∉ fp2) (iz1 : i1 ≠ z) (iz2 : i2 ≠ z) (io1 : i1 ≠ TO) (io2 : i2 ≠ TO) (oz : TO ≠ z) (tz : TI ≠ z) (tO : TI ≠ TO) (ti1 : TI ≠ i1) (ti2 : TI ≠ i2)
    (hQ : ∀ x y h' tk, P1 i x → P2 i y → IsZip h' z TI TO (rawInt s.heap.objs.size) → IsPair h' TI (.ref i1) (.ref i2) → IsPair h' TO x y → St1 (i + 1) h' → St2 (i + 1) h' → IsPair h' s.heap.objs.size x y → h'.objs.size = s.heap.objs.size + 1 →
      (∀ c o, c ≠ z → c ≠ TO → c ≠ i1 → c ≠ i2 → s.heap.get? c = some o → h'.get? c = some o) → Q (.ref s.heap.objs.size) { s with heap := h', toks := tk }) :
    wpAny (model prog w) A (Builtin.«zip.__next__» { pos := [.ref z] }) (fun fin s' => ∃ v, fin = Fin.done (Flow.ret v) ∧ Q v s') E s := by
  show wpAny _ _ (field (.ref z) 2 >>= _) _ _ s
  refine wpAny_bind (wpAny_field hz rfl (x := .bool false) rfl ?_)
  show wpAny _ _ (field (.ref z) 3 >>= _) _ _ s
  refine wpAny_bind (wpAny_field hz rfl (x := .ref TI) rfl ?_)
  show wpAny _ _ (seqItems? (.ref TI) >>= _) _ _ s
  refine wpAny_bind (wpAny_seqItems hI rfl ?_)
  show wpAny _ _ (Builtin.SmallTypes.ownedTupleIsFree (.ref z) >>= _) _ _ s
  refine wpAny_bind ?_
  unfold Builtin.SmallTypes.ownedTupleIsFree
  refine wpAny_bind (wpAny_field hz rfl (x := .none) rfl (wpAny_pure ?_))
  show wpAny _ _ (rule _ >>= _) _ _ s
  refine wpAny_bind (wpAny_rule ?_)
  show wpAny _ _ (field (.ref z) 4 >>= _) _ _ s
  refine wpAny_bind (wpAny_field hz rfl (x := .ref TO) rfl ?_)
  show wpAny _ _ (setField (.ref z) 0 .ellipsis >>= _) _ _ s
  refine wpAny_bind (wpAny_setField hz rfl (by show 0 < 5; decide) ?_)
  obtain ⟨hz0, sb0⟩ := zip_f0 hz .ellipsis
  revert hz0 sb0
  generalize s.heap.update z (Obj.mapFields fun x => x.setIfInBounds 0 Value.ellipsis) = h0
  intro hz0 sb0
  have no : ∀ b, b ≠ z → ∀ o, s.heap.get? b = some o → h0.get? b = some o := fun b hb o e => (sb0.2 b hb).trans e
  refine wpAny_bind ?_
  show wpAny _ _ (forIn [(Value.ref i1, 0), (Value.ref i2, 1)] (none, ()) _) _ _ _
  rw [List.forIn_cons]
  refine wpAny_bind (wpAny_bind (wpAny_onRaise ?_))
  show wpAny _ _ (Builtin.SmallTypes.nextOf (.ref i1) >>= fun x => pure (some x)) _ _ _
  refine wpAny_bind (D1.item i { s with heap := h0 } _ _ l1 (D1.frame _ _ _ st1 fun b hb o e => no b (fun q => z1 (q ▸ hb)) o e) fun x h1 tk1 p1 st1' sb1 => wpAny_pure ?_)
  have hO1 : IsPair h1 TO a b := (sb1.2 TO (Ne.symm io1)).trans (no TO oz _ hO)
  show wpAny _ _ (seqItems? (.ref TO) >>= _) _ _ _
  refine wpAny_bind (wpAny_seqItems (s := { s with heap := h1, toks := tk1 }) hO1 rfl ?_)
  show wpAny _ _ (updateSeq TO _ >>= _) _ _ _
  refine wpAny_bind (wpAny_updateSeq (s := { s with heap := h1, toks := tk1 }) hO1 rfl ?_)
  obtain ⟨hO2, sb2⟩ := pair_0 hO1 x
  revert hO2 sb2
  show IsPair (h1.update TO (Obj.mapSeq fun q => q.setIfInBounds 0 x)) TO x b → Heap.SameBut TO h1 (h1.update TO (Obj.mapSeq fun q => q.setIfInBounds 0 x)) → wpAny _ _ _ _ _ { s with heap := h1.update TO (Obj.mapSeq fun q => q.setIfInBounds 0 x), toks := tk1 }
  generalize h1.update TO (Obj.mapSeq fun q => q.setIfInBounds 0 x) = h2
  intro hO2 sb2
  refine wpAny_bind (wpAny_letGo (wpAny_pure ?_))
  show wpAny _ _ (forIn [(Value.ref i2, 1)] (none, ()) _) _ _ _
  rw [List.forIn_cons]
  refine wpAny_bind (wpAny_bind (wpAny_onRaise ?_))
  show wpAny _ _ (Builtin.SmallTypes.nextOf (.ref i2) >>= fun x => pure (some x)) _ _ _
  have k2 : ∀ c o, c ≠ z → c ≠ TO → c ≠ i1 → s.heap.get? c = some o → h2.get? c = some o := fun c o c1 c2 c3 e => (sb2.2 c c2).trans ((sb1.2 c c3).trans (no c c1 o e))
  refine wpAny_bind (D2.item i { s with heap := h2, toks := tk1 } _ _ l2 (D2.frame _ _ _ st2 fun c hc o e => k2 c o (fun q => z2 (q ▸ hc)) (fun q => o2 (q ▸ hc)) (fun q => x21 (q ▸ hc)) e) fun y h3 tk3 p2 st2' sb3 => wpAny_pure ?_)
  have hO3 : IsPair h3 TO x b := (sb3.2 TO (Ne.symm io2)).trans hO2
  show wpAny _ _ (seqItems? (.ref TO) >>= _) _ _ _
  refine wpAny_bind (wpAny_seqItems (s := { s with heap := h3, toks := tk3 }) hO3 rfl ?_)
  show wpAny _ _ (updateSeq TO _ >>= _) _ _ _
  refine wpAny_bind (wpAny_updateSeq (s := { s with heap := h3, toks := tk3 }) hO3 rfl ?_)
  obtain ⟨hO4, sb4⟩ := pair_1 hO3 y
  revert hO4 sb4
  show IsPair (h3.update TO (Obj.mapSeq fun q => q.setIfInBounds 1 y)) TO x y → Heap.SameBut TO h3 (h3.update TO (Obj.mapSeq fun q => q.setIfInBounds 1 y)) → wpAny _ _ _ _ _ { s with heap := h3.update TO (Obj.mapSeq fun q => q.setIfInBounds 1 y), toks := tk3 }
  generalize h3.update TO (Obj.mapSeq fun q => q.setIfInBounds 1 y) = h4
  intro hO4 sb4
  refine wpAny_bind (wpAny_letGo (wpAny_pure ?_))
  show wpAny _ _ (forIn [] (none, ()) _) _ _ _
  rw [List.forIn_nil]
  refine wpAny_pure ?_
  show wpAny _ _ (seqItems? (.ref TO) >>= _) _ _ _
  refine wpAny_bind (wpAny_seqItems (s := { s with heap := h4, toks := tk3 }) hO4 rfl ?_)
  show wpAny _ _ (newTuple [x, y] >>= _) _ _ _
  refine wpAny_bind ?_
  simp only [newTuple]
  have k4 : ∀ c o, c ≠ z → c ≠ TO → c ≠ i1 → c ≠ i2 → s.heap.get? c = some o → h4.get? c = some o := fun c o c1 c2 c3 c4 e => (sb4.2 c c2).trans ((sb3.2 c c4).trans (k2 c o c1 c2 c3 e))
  have hz4 : IsZip h4 z TI TO .ellipsis := (sb4.2 z (Ne.symm oz)).trans ((sb3.2 z (Ne.symm iz2)).trans ((sb2.2 z (Ne.symm oz)).trans ((sb1.2 z (Ne.symm iz1)).trans hz0)))
  have s1' : St1 (i + 1) h4 := D1.frame _ _ _ st1' fun c hc o e => (sb4.2 c (fun q => o1 (q ▸ hc))).trans ((sb3.2 c (fun q => x12 (q ▸ hc))).trans ((sb2.2 c (fun q => o1 (q ▸ hc))).trans e))
  have s2' : St2 (i + 1) h4 := D2.frame _ _ _ st2' fun c hc o e => (sb4.2 c (fun q => o2 (q ▸ hc))).trans e
  have sz4 : h4.objs.size = s.heap.objs.size := by rw [sb4.1, sb3.1, sb2.1, sb1.1, sb0.1]
  refine wpAny_newObj_type ?_ (by size_fits)
  have hz5 : IsZip (h4.push { cls := .type "tuple", data := .seq #[x, y] }) z TI TO .ellipsis := Heap.get?_push_of_some _ hz4
  have hT5 : IsPair (h4.push { cls := .type "tuple", data := .seq #[x, y] }) h4.objs.size x y := Heap.get?_push_size _ rfl
  have sz5 : (h4.push { cls := .type "tuple", data := .seq #[x, y] }).objs.size = h4.objs.size + 1 := Heap.size_push ..
  have k5 : ∀ c o, h4.get? c = some o → (h4.push { cls := .type "tuple", data := .seq #[x, y] }).get? c = some o := fun c o e => Heap.get?_push_of_some _ e
  show wpAny _ _ _ _ _ { s with heap := h4.push { cls := .type "tuple", data := .seq #[x, y] }, toks := tk3 }
  revert hz5 hT5 sz5 k5
  generalize h4.push { cls := .type "tuple", data := .seq #[x, y] } = h5
  intro hz5 hT5 sz5 k5
  show wpAny _ _ (Builtin.SmallTypes.ownedTupleHandOut (.ref z) (.ref h4.objs.size) >>= fun _ => pure (Fin.done (Flow.ret (.ref h4.objs.size)))) _ _ _
  rw [sz4] at hT5 sz5 ⊢
  refine wpAny_bind ?_
  show wpAny _ _ (setField (.ref z) 0 (rawInt s.heap.objs.size) >>= fun _ => setField (.ref z) 1 (.bool false)) _ _ _
  refine wpAny_bind (wpAny_setField (s := { s with heap := h5, toks := tk3 }) hz5 rfl (by show 0 < 5; decide) ?_)
  obtain ⟨hz6, sb6⟩ := zip_f0 hz5 (rawInt s.heap.objs.size)
  obtain ⟨hz7, sb7⟩ := zip_f1 hz6
  refine wpAny_setField hz6 rfl (by show 1 < 5; decide) (wpAny_pure ⟨_, rfl, ?_⟩)
  have k7 : ∀ c o, c ≠ z → h4.get? c = some o → ((h5.update z (Obj.mapFields fun x => x.setIfInBounds 0 (rawInt s.heap.objs.size))).update z (Obj.mapFields fun x => x.setIfInBounds 1 (.bool false))).get? c = some o := fun c o c1 e => (sb7.2 c c1).trans ((sb6.2 c c1).trans (k5 c o e))
  have nT : s.heap.objs.size ≠ z := Nat.ne_of_gt (Heap.lt_size hz)
  exact hQ x y _ tk3 p1 p2 hz7 (k7 TI _ tz (k4 TI _ tz tO ti1 ti2 hI)) (k7 TO _ oz hO4) (D1.frame _ _ _ s1' fun c hc o e => k7 c o (fun q => z1 (q ▸ hc)) e) (D2.frame _ _ _ s2' fun c hc o e => k7 c o (fun q => z2 (q ▸ hc)) e) ((sb7.2 _ nT).trans ((sb6.2 _ nT).trans hT5)) (by rw [sb7.1, sb6.1, sz5]) fun c o c1 c2 c3 c4 e => k7 c o c1 (k4 c o c1 c2 c3 c4 e)
theorem zip_end1 {z TI TO i1 i2 : Addr} {fp1 : List Addr} {n1 : Nat} {P1 : Nat → Value → Prop} {St1 : Nat → Heap → Prop} {a b : Value} {Q : Fin → Shared → Prop}
    (D1 : Draws prog w A i1 fp1 n1 P1 St1)
    (hz : IsZip s.heap z TI TO .none) (hI : IsPair s.heap TI (.ref i1) (.ref i2)) (hO : IsPair s.heap TO a b) (st1 : St1 n1 s.heap)
    (z1 : z ∉ fp1) (iz1 : i1 ≠ z)
    (hE : ∀ h' e tk, (∀ c o, c ≠ z → c ≠ TO → c ≠ i1 → c ≠ i2 → s.heap.get? c = some o → h'.get? c = some o) → (∃ o, h'.get? e = some o ∧ o.cls = .type "StopIteration") → E (.ref e) { s with heap := h', toks := tk }) :
    wpAny (model prog w) A (Builtin.«zip.__next__» { pos := [.ref z] }) Q E s := by
  show wpAny _ _ (field (.ref z) 2 >>= _) _ _ s
  refine wpAny_bind (wpAny_field hz rfl (x := .bool false) rfl ?_)
  show wpAny _ _ (field (.ref z) 3 >>= _) _ _ s
  refine wpAny_bind (wpAny_field hz rfl (x := .ref TI) rfl ?_)
  show wpAny _ _ (seqItems? (.ref TI) >>= _) _ _ s
  refine wpAny_bind (wpAny_seqItems hI rfl ?_)
  show wpAny _ _ (Builtin.SmallTypes.ownedTupleIsFree (.ref z) >>= _) _ _ s
  refine wpAny_bind ?_
  unfold Builtin.SmallTypes.ownedTupleIsFree
  refine wpAny_bind (wpAny_field hz rfl (x := .none) rfl (wpAny_pure ?_))
  show wpAny _ _ (rule _ >>= _) _ _ s
  refine wpAny_bind (wpAny_rule ?_)
  show wpAny _ _ (field (.ref z) 4 >>= _) _ _ s
  refine wpAny_bind (wpAny_field hz rfl (x := .ref TO) rfl ?_)
  show wpAny _ _ (setField (.ref z) 0 .ellipsis >>= _) _ _ s
  refine wpAny_bind (wpAny_setField hz rfl (by show 0 < 5; decide) ?_)
  obtain ⟨hz0, sb0⟩ := zip_f0 hz .ellipsis
  revert hz0 sb0
  generalize s.heap.update z (Obj.mapFields fun x => x.setIfInBounds 0 Value.ellipsis) = h0
  intro hz0 sb0
  have no : ∀ b, b ≠ z → ∀ o, s.heap.get? b = some o → h0.get? b = some o := fun b hb o e => (sb0.2 b hb).trans e
  refine wpAny_bind ?_
  show wpAny _ _ (forIn [(Value.ref i1, 0), (Value.ref i2, 1)] (none, ()) _) _ _ _
  rw [List.forIn_cons]
  refine wpAny_bind (wpAny_bind (wpAny_onRaise ?_))
  show wpAny _ _ (Builtin.SmallTypes.nextOf (.ref i1) >>= fun x => pure (some x)) _ _ _
  refine wpAny_bind (D1.done { s with heap := h0 } _ _ (D1.frame _ _ _ st1 fun b hb o e => no b (fun q => z1 (q ▸ hb)) o e) fun h1 e xb hs => ?_)
  have hz1 : IsZip h1 z TI TO .ellipsis := xb z _ (Ne.symm iz1) hz0
  obtain ⟨hz2, sb2⟩ := zip_f0 hz1 .none
  refine wpAny_setField (s := { s with heap := h1 }) hz1 rfl (by show 0 < 5; decide) (hE _ e s.toks (fun c o c1 c2 c3 c4 q => (sb2.2 c c1).trans (xb c o c3 (no c c1 o q))) ?_)
  obtain ⟨o, ho, hc⟩ := hs
  refine ⟨o, (sb2.2 e fun q => ?_).trans ho, hc⟩
  rw [q, hz1] at ho
  obtain rfl := Option.some.inj ho
  exact absurd hc (by show ¬ (Value.type "zip" = Value.type "StopIteration"); decide)
theorem zip_end2 {z TI TO i1 i2 : Addr} {fp1 fp2 : List Addr} {n1 i : Nat} {P1 P2 : Nat → Value → Prop} {St1 St2 : Nat → Heap → Prop} {a b : Value} {Q : Fin → Shared → Prop}
    (D1 : Draws prog w A i1 fp1 n1 P1 St1) (D2 : Draws prog w A i2 fp2 i P2 St2)
    (hz : IsZip s.heap z TI TO .none) (hI : IsPair s.heap TI (.ref i1) (.ref i2)) (hO : IsPair s.heap TO a b) (st1 : St1 i s.heap) (st2 : St2 i s.heap) (l1 : i < n1)
    (z1 : z ∉ fp1) (z2 : z ∉ fp2) (o2 : TO ∉ fp2) (x21 : i1 ∉ fp2) (iz1 : i1 ≠ z) (iz2 : i2 ≠ z) (io1 : i1 ≠ TO) (oz : TO ≠ z)
    (hE : ∀ h' e tk, (∀ c o, c ≠ z → c ≠ TO → c ≠ i1 → c ≠ i2 → s.heap.get? c = some o → h'.get? c = some o) → (∃ o, h'.get? e = some o ∧ o.cls = .type "StopIteration") → E (.ref e) { s with heap := h', toks := tk }) :
    wpAny (model prog w) A (Builtin.«zip.__next__» { pos := [.ref z] }) Q E s := by
  show wpAny _ _ (field (.ref z) 2 >>= _) _ _ s
  refine wpAny_bind (wpAny_field hz rfl (x := .bool false) rfl ?_)
  show wpAny _ _ (field (.ref z) 3 >>= _) _ _ s
  refine wpAny_bind (wpAny_field hz rfl (x := .ref TI) rfl ?_)
  show wpAny _ _ (seqItems? (.ref TI) >>= _) _ _ s
  refine wpAny_bind (wpAny_seqItems hI rfl ?_)
  show wpAny _ _ (Builtin.SmallTypes.ownedTupleIsFree (.ref z) >>= _) _ _ s
  refine wpAny_bind ?_
  unfold Builtin.SmallTypes.ownedTupleIsFree
  refine wpAny_bind (wpAny_field hz rfl (x := .none) rfl (wpAny_pure ?_))
  show wpAny _ _ (rule _ >>= _) _ _ s
  refine wpAny_bind (wpAny_rule ?_)
  show wpAny _ _ (field (.ref z) 4 >>= _) _ _ s
  refine wpAny_bind (wpAny_field hz rfl (x := .ref TO) rfl ?_)
  show wpAny _ _ (setField (.ref z) 0 .ellipsis >>= _) _ _ s
  refine wpAny_bind (wpAny_setField hz rfl (by show 0 < 5; decide) ?_)
  obtain ⟨hz0, sb0⟩ := zip_f0 hz .ellipsis
  revert hz0 sb0
  generalize s.heap.update z (Obj.mapFields fun x => x.setIfInBounds 0 Value.ellipsis) = h0
  intro hz0 sb0
  have no : ∀ b, b ≠ z → ∀ o, s.heap.get? b = some o → h0.get? b = some o := fun b hb o e => (sb0.2 b hb).trans e
  refine wpAny_bind ?_
  show wpAny _ _ (forIn [(Value.ref i1, 0), (Value.ref i2, 1)] (none, ()) _) _ _ _
  rw [List.forIn_cons]
  refine wpAny_bind (wpAny_bind (wpAny_onRaise ?_))
  show wpAny _ _ (Builtin.SmallTypes.nextOf (.ref i1) >>= fun x => pure (some x)) _ _ _
  refine wpAny_bind (D1.item i { s with heap := h0 } _ _ l1 (D1.frame _ _ _ st1 fun b hb o e => no b (fun q => z1 (q ▸ hb)) o e) fun x h1 tk1 p1 st1' sb1 => wpAny_pure ?_)
  have hO1 : IsPair h1 TO a b := (sb1.2 TO (Ne.symm io1)).trans (no TO oz _ hO)
  show wpAny _ _ (seqItems? (.ref TO) >>= _) _ _ _
  refine wpAny_bind (wpAny_seqItems (s := { s with heap := h1, toks := tk1 }) hO1 rfl ?_)
  show wpAny _ _ (updateSeq TO _ >>= _) _ _ _
  refine wpAny_bind (wpAny_updateSeq (s := { s with heap := h1, toks := tk1 }) hO1 rfl ?_)
  obtain ⟨hO2, sb2⟩ := pair_0 hO1 x
  revert hO2 sb2
  show IsPair (h1.update TO (Obj.mapSeq fun q => q.setIfInBounds 0 x)) TO x b → Heap.SameBut TO h1 (h1.update TO (Obj.mapSeq fun q => q.setIfInBounds 0 x)) → wpAny _ _ _ _ _ { s with heap := h1.update TO (Obj.mapSeq fun q => q.setIfInBounds 0 x), toks := tk1 }
  generalize h1.update TO (Obj.mapSeq fun q => q.setIfInBounds 0 x) = h2
  intro hO2 sb2
  refine wpAny_bind (wpAny_letGo (wpAny_pure ?_))
  show wpAny _ _ (forIn [(Value.ref i2, 1)] (none, ()) _) _ _ _
  rw [List.forIn_cons]
  refine wpAny_bind (wpAny_bind (wpAny_onRaise ?_))
  show wpAny _ _ (Builtin.SmallTypes.nextOf (.ref i2) >>= fun x => pure (some x)) _ _ _
  have k2 : ∀ c o, c ≠ z → c ≠ TO → c ≠ i1 → s.heap.get? c = some o → h2.get? c = some o := fun c o c1 c2 c3 e => (sb2.2 c c2).trans ((sb1.2 c c3).trans (no c c1 o e))
  have hz2 : IsZip h2 z TI TO .ellipsis := (sb2.2 z (Ne.symm oz)).trans ((sb1.2 z (Ne.symm iz1)).trans hz0)
  refine wpAny_bind (D2.done { s with heap := h2, toks := tk1 } _ _ (D2.frame _ _ _ st2 fun c hc o e => k2 c o (fun q => z2 (q ▸ hc)) (fun q => o2 (q ▸ hc)) (fun q => x21 (q ▸ hc)) e) fun h3 e xb hs => ?_)
  have hz3 : IsZip h3 z TI TO .ellipsis := xb z _ (Ne.symm iz2) hz2
  obtain ⟨hz4, sb4⟩ := zip_f0 hz3 .none
  refine wpAny_setField (s := { s with heap := h3, toks := tk1 }) hz3 rfl (by show 0 < 5; decide) (hE _ e tk1 (fun c o c1 c2 c3 c4 q => (sb4.2 c c1).trans (xb c o c4 (k2 c o c1 c2 c3 q))) ?_)
  obtain ⟨o, ho, hc⟩ := hs
  refine ⟨o, (sb4.2 e fun q => ?_).trans ho, hc⟩
  rw [q, hz3] at ho
  obtain rfl := Option.some.inj ho
  exact absurd hc (by show ¬ (Value.type "zip" = Value.type "StopIteration"); decide)
end
end L3

namespace L3
open PySem PySem.Spec PyProof.Rows L2
section
variable {prog : Program} {w : World} {A : Around} {E : Value → Shared → Prop} {s : Shared}
theorem stop_next {e : Addr} {Q : Option Value → Shared → Prop} (h : ∃ o, s.heap.get? e = some o ∧ o.cls = .type "StopIteration") (q : Q none s) :
    wpAny (model prog w) A (do if ← isInstance (.ref e) (.type "StopIteration") then pure none else throw (.ref e) : Sem (Option Value)) Q E s := by
  refine wpAny_bind (wpAny_isInstance (T := "StopIteration") (b := true) h (by first | rfl | decide) ?_)
  rw [if_pos rfl]
  exact wpAny_pure q
theorem zip_ty {z TI TO : Addr} {f0 : Value} (hz : IsZip s.heap z TI TO f0) : s.TypeIs (.ref z) "zip" := ⟨_, hz, rfl⟩
theorem pn_zip {z TI TO : Addr} {f0 : Value} {Q : Option Value → Shared → Prop} (hz : IsZip s.heap z TI TO f0)
    (h : wpAny (model prog w) A.in1 (Builtin.«zip.__next__» { pos := [.ref z] }) (fun fin s' => ∃ v, fin = Fin.done (Flow.ret v) ∧ Q (some v) s')
      (fun e s' => ∃ a, e = .ref a ∧ (∃ o, s'.heap.get? a = some o ∧ o.cls = .type "StopIteration") ∧ Q none s') s) : wpAny (model prog w) A (pyNext (.ref z)) Q E s := by
  unfold pyNext
  refine wpAny_bind (wpAny_attempt (wpAny_callSpecial?_slot (name := Str.ofString "__next__") (zip_ty hz) F.slot_zip_next (wpAny_call_entry F.slot_zip_next (zip_ty hz) F.entry_zip_next (wpAny_mono h (fun fin s' hq => ?_) (fun e s' hq => ?_)) (F.args_zip_next_1 _))))
  · obtain ⟨v, rfl, q⟩ := hq
    exact ⟨v, rfl, wpAny_pure q⟩
  · obtain ⟨a, rfl, ho, q⟩ := hq
    exact stop_next ho q
def SrcAt (h : Heap) (a : Addr) (cn : String) (vs : Array Value) : Prop := (cn = "tuple_iterator" ∧ h.IsTuple a vs) ∨ (cn = "list_iterator" ∧ h.IsList a vs)
theorem SrcAt.iter {a : Addr} {cn : String} {vs : Array Value} {Q : Value → Shared → Prop} (h : SrcAt s.heap a cn vs)
    (q : Q (.ref s.heap.objs.size) { s with heap := s.heap.push { cls := .type cn, data := .fields #[.ref a, .int 0 0] } }) : wpAny (model prog w) A (pyIter (.ref a)) Q E s := by
  rcases h with ⟨rfl, h⟩ | ⟨rfl, h⟩
  · exact wpAny_pyIter_tuple h q
  · exact wpAny_pyIter_list h q
theorem SrcAt.push {h : Heap} {a : Addr} {cn : String} {vs : Array Value} (x : SrcAt h a cn vs) (o : Obj) : SrcAt (h.push o) a cn vs := by
  rcases x with ⟨rfl, x⟩ | ⟨rfl, x⟩
  · exact .inl ⟨rfl, x.push o⟩
  · exact .inr ⟨rfl, x.push o⟩
def zpO (c : String) (a : Addr) : Obj := { cls := .type c, data := .fields #[.ref a, .int 0 0] }
def zpT (a b : Value) : Obj := { cls := .type "tuple", data := .seq #[a, b] }
def zpZ (TI TO : Addr) : Obj := { cls := .type "zip", data := .fields #[.none, .bool false, .bool false, .ref TI, .ref TO] }
def zpN (h : Heap) (c1 : String) (a : Addr) (c2 : String) (b : Addr) : Addr :=
  let h1 := h.push (zpO c1 a)
  let h2 := h1.push (zpO c2 b)
  let h3 := h2.push (zpT (.ref h.objs.size) (.ref h1.objs.size))
  (h3.push (zpT .none .none)).objs.size
def zpH (h : Heap) (c1 : String) (a : Addr) (c2 : String) (b : Addr) : Heap :=
  let h1 := h.push (zpO c1 a)
  let h2 := h1.push (zpO c2 b)
  let h3 := h2.push (zpT (.ref h.objs.size) (.ref h1.objs.size))
  let h4 := h3.push (zpT .none .none)
  h4.push (zpZ h2.objs.size h3.objs.size)
theorem zip_new (a b : Addr) (c1 c2 : String) (xs ys : Array Value) :
    Meets (Builtin.«zip.__new__» ⟨[.type "zip", .ref a, .ref b], []⟩) (fun _ R s => SrcAt s.heap a c1 xs ∧ SrcAt s.heap b c2 ys ∧
      R (.ok (.ret (.ref (zpN s.heap c1 a c2 b)))) { s with heap := zpH s.heap c1 a c2 b }) :=
  .of_wp fun prog w A R s h => by
    obtain ⟨hp, g, d, tk, os⟩ := s; obtain ⟨h1, h2, h⟩ := h
    have hsub := sub_zip
    have h2' : SrcAt (Shared.heap ⟨hp.push { cls := .type c1, data := .fields #[.ref a, .int 0 0] }, g, d, tk, os⟩) b c2 ys := h2.push _
    wp_walk using SrcAt.iter h1, SrcAt.iter h2'
    exact ⟨_, rfl, h⟩
theorem call_zipS {a b : Addr} {c1 c2 : String} {xs ys : Array Value} {Q : Value → Shared → Prop} (ha : SrcAt s.heap a c1 xs) (hb : SrcAt s.heap b c2 ys)
    (h : ∀ h', IsZip h' (s.heap.objs.size + 4) (s.heap.objs.size + 2) (s.heap.objs.size + 3) .none → IsPair h' (s.heap.objs.size + 2) (.ref s.heap.objs.size) (.ref (s.heap.objs.size + 1)) → IsPair h' (s.heap.objs.size + 3) .none .none →
      h'.get? s.heap.objs.size = some (zpO c1 a) → h'.get? (s.heap.objs.size + 1) = some (zpO c2 b) → (∀ c o, s.heap.get? c = some o → h'.get? c = some o) → Q (.ref (s.heap.objs.size + 4)) { s with heap := h' }) :
    wpAny (model prog w) A (call (.type "zip") [.ref a, .ref b]) Q E s := by
  refine callType_new F.called_zip (by decide) (F.typeCall_zip_2 _ _) (F.newCall_zip_2 _ _) (fun obj => F.args_object_init_3 obj _ _) F.entry_zip_new (zip_new a b c1 c2 xs ys) ⟨ha, hb, ?_⟩
  have gs : ∀ (h : Heap) (o : Obj) (m : Nat), o.isFreed = false → h.objs.size = m → (h.push o).get? m = some o ∧ (h.push o).objs.size = m + 1 := fun h o m f e => by
    subst e; exact ⟨Heap.get?_push_size _ f, Heap.size_push ..⟩
  obtain ⟨e1, z1⟩ := gs s.heap (zpO c1 a) _ rfl rfl
  obtain ⟨e2, z2⟩ := gs (s.heap.push (zpO c1 a)) (zpO c2 b) _ rfl z1
  obtain ⟨e3, z3⟩ := gs ((s.heap.push (zpO c1 a)).push (zpO c2 b)) (zpT (.ref s.heap.objs.size) (.ref (s.heap.push (zpO c1 a)).objs.size)) _ rfl z2
  obtain ⟨e4, z4⟩ := gs (((s.heap.push (zpO c1 a)).push (zpO c2 b)).push (zpT (.ref s.heap.objs.size) (.ref (s.heap.push (zpO c1 a)).objs.size))) (zpT .none .none) _ rfl z3
  obtain ⟨e5, z5⟩ := gs ((((s.heap.push (zpO c1 a)).push (zpO c2 b)).push (zpT (.ref s.heap.objs.size) (.ref (s.heap.push (zpO c1 a)).objs.size))).push (zpT .none .none)) (zpZ ((s.heap.push (zpO c1 a)).push (zpO c2 b)).objs.size (((s.heap.push (zpO c1 a)).push (zpO c2 b)).push (zpT (.ref s.heap.objs.size) (.ref (s.heap.push (zpO c1 a)).objs.size))).objs.size) _ rfl z4
  have eN : zpN s.heap c1 a c2 b = s.heap.objs.size + 4 := z4
  have ps : ∀ (h : Heap) (o : Obj) (c : Addr) (q : Obj), h.get? c = some q → (h.push o).get? c = some q := fun h o c q e => Heap.get?_push_of_some _ e
  have f5 : (zpH s.heap c1 a c2 b).get? (s.heap.objs.size + 4) = some (zpZ (s.heap.objs.size + 2) (s.heap.objs.size + 3)) := by
    have := e5
    rw [z2, z3] at this
    unfold zpH
    dsimp only
    rw [z2, z3]
    exact this
  have f3 : (zpH s.heap c1 a c2 b).get? (s.heap.objs.size + 2) = some (zpT (.ref s.heap.objs.size) (.ref (s.heap.objs.size + 1))) := by
    have := ps _ (zpZ ((s.heap.push (zpO c1 a)).push (zpO c2 b)).objs.size (((s.heap.push (zpO c1 a)).push (zpO c2 b)).push (zpT (.ref s.heap.objs.size) (.ref (s.heap.push (zpO c1 a)).objs.size))).objs.size) _ _ (ps _ (zpT .none .none) _ _ e3)
    unfold zpH
    dsimp only
    exact this.trans (by rw [z1])
  have f4 : (zpH s.heap c1 a c2 b).get? (s.heap.objs.size + 3) = some (zpT .none .none) := ps _ _ _ _ e4
  have f1 : (zpH s.heap c1 a c2 b).get? s.heap.objs.size = some (zpO c1 a) := ps _ _ _ _ (ps _ _ _ _ (ps _ _ _ _ (ps _ _ _ _ e1)))
  have f2 : (zpH s.heap c1 a c2 b).get? (s.heap.objs.size + 1) = some (zpO c2 b) := ps _ _ _ _ (ps _ _ _ _ (ps _ _ _ _ e2))
  have fk : ∀ c o, s.heap.get? c = some o → (zpH s.heap c1 a c2 b).get? c = some o := fun c o e => ps _ _ _ _ (ps _ _ _ _ (ps _ _ _ _ (ps _ _ _ _ (ps _ _ _ _ e))))
  show _ ∧ _
  rw [eN]
  exact ⟨⟨_, f5, rfl⟩, h _ f5 f3 f4 f1 f2 fk⟩
end
end L3

namespace L3
open PySem PySem.Spec PyProof.Rows L2
def SqC (c : Bool) (K : PySem.W.Frag) (H : Hp) (a : Addr) (xs : List V) : Prop := match c with
  | true => SqT K H a xs
  | false => SqL K H a xs
def IterC (c : Bool) (h : Heap) (j a : Addr) (i : Nat) : Prop := match c with
  | true => h.IsTupleIter j a i
  | false => h.IsListIter j a i
def SeqC (c : Bool) (h : Heap) (a : Addr) (vs : Array Value) : Prop := match c with
  | true => h.IsTuple a vs
  | false => h.IsList a vs
def cnC (c : Bool) : String := match c with
  | true => "tuple_iterator"
  | false => "list_iterator"
theorem IterC.at {c : Bool} {h h' : Heap} {j a : Addr} {i : Nat} (x : IterC c h j a i) (k : ∀ o, h.get? j = some o → h'.get? j = some o) : IterC c h' j a i := by
  cases c
  · exact Heap.IsListIter.at x k
  · exact Heap.IsTupleIter.at x k
theorem IterC.obj {c : Bool} {h : Heap} {j a : Addr} {i : Nat} (x : IterC c h j a i) : ∃ o, h.get? j = some o ∧ ∀ v, o.data ≠ .cell v := by
  cases c
  · obtain ⟨o, e, _, d⟩ := x
    exact ⟨o, e, fun v z => by rw [d] at z; cases z⟩
  · obtain ⟨o, e, _, d⟩ := x
    exact ⟨o, e, fun v z => by rw [d] at z; cases z⟩
theorem IterC.mk {c : Bool} {h : Heap} {j a : Addr} (e : h.get? j = some (zpO (cnC c) a)) : IterC c h j a 0 := by
  cases c
  · exact ⟨_, e, rfl, rfl⟩
  · exact ⟨_, e, rfl, rfl⟩
theorem SeqC.src {c : Bool} {h : Heap} {a : Addr} {vs : Array Value} (x : SeqC c h a vs) : SrcAt h a (cnC c) vs := by
  cases c
  · exact .inr ⟨rfl, x⟩
  · exact .inl ⟨rfl, x⟩
theorem SeqC.lt {c : Bool} {h : Heap} {a : Addr} {vs : Array Value} (x : SeqC c h a vs) : a < h.objs.size := by
  cases c
  · obtain ⟨_, e, _⟩ := (show h.IsList a vs from x); exact Heap.lt_size e
  · obtain ⟨_, e, _⟩ := (show h.IsTuple a vs from x); exact Heap.lt_size e
theorem drawsC {prog : Program} {w : World} {A : Around} (hh : A.handled = none) (c : Bool) (j t : Addr) (hne : t ≠ j) (vs : Array Value) :
    Draws prog w A j [j, t] vs.size (fun i v => vs[i]? = some v) (fun i h => IterC c h j t i ∧ SeqC c h t vs) := by
  cases c
  · exact Draws.list hh j t hne vs
  · exact draws_tup hh j t hne vs
theorem draws_endL {prog : Program} {w : World} {A : Around} (hh : A.handled = none) (jt t : Addr) (vs : Array Value) {i : Nat} (hv : vs[i]? = none) :
    Draws prog w A jt [jt, t] i (fun _ _ => True) (fun j h => j = i ∧ h.IsListIter jt t i ∧ h.IsList t vs) where
  live := fun _ _ st => let ⟨o, ho, _⟩ := st.2.1; ⟨o, ho⟩
  frame := fun _ _ _ st hk => ⟨st.1, st.2.1.at (hk jt (by simp)), st.2.2.at (hk t (by simp))⟩
  item := fun j s Q E hj st hQ => absurd st.1 (Nat.ne_of_lt hj)
  done := fun s Q E st hE => wpAny_nextOf_list_end hh st.2.1 st.2.2 hv hE
theorem drawsC_end {prog : Program} {w : World} {A : Around} (hh : A.handled = none) (c : Bool) (j t : Addr) (vs : Array Value) {i : Nat} (hv : vs[i]? = none) :
    Draws prog w A j [j, t] i (fun _ _ => True) (fun k h => k = i ∧ IterC c h j t i ∧ SeqC c h t vs) := by
  cases c
  · exact draws_endL hh j t vs hv
  · exact draws_end hh j t vs hv
theorem inv_seqC {X : Cx} {pins : List (Addr × Obj)} {σ : L2.St} {H : Hp} {s : Shared} {c : Bool} {a : Addr} {xs : List V} (I : Inv X pins σ H s) (h : SqC c X.K H a xs) : ∃ its : List Value, Vals xs its ∧ SeqC c s.heap a its.toArray := by
  cases c
  · obtain ⟨its, r, p, _⟩ := I.list h
    exact ⟨its, r, p.isList⟩
  · obtain ⟨its, r, p, _⟩ := I.tuple h
    exact ⟨its, r, p⟩
theorem inv_seqC_inj {X : Cx} {pins : List (Addr × Obj)} {σ : L2.St} {H : Hp} {s : Shared} {c : Bool} {a : Addr} {xs ys : List V} (I : Inv X pins σ H s) (h : SqC c X.K H a xs) (h' : SqC c X.K H a ys) : xs = ys := by
  cases c
  · exact I.list_inj h h'
  · exact I.tuple_inj h h'
theorem nne {i j : Nat} (h : i ≠ j) : i ≠ j := h
theorem nin2 {z j t : Nat} (h1 : z ≠ j) (h2 : z ≠ t) : z ∉ ([j, t] : List Nat) := by simp [h1, h2]
def Itz (K : PySem.W.Frag) (c : Bool) (a : Addr) (d : Bool) (b : Addr) : It :=
  ⟨fun i H => ∃ xs ys x y, SqC c K H a xs ∧ SqC d K H b ys ∧ xs[i]? = some x ∧ ys[i]? = some y,
   fun i H x H' => ∃ T v w, H T = none ∧ x = .ref T ∧ H' = upd H T (.tup [v, w]) ∧ (∀ xs, SqC c K H a xs → xs[i]? = some v) ∧ ∀ ys, SqC d K H b ys → ys[i]? = some w,
   fun i H => ∃ xs ys, SqC c K H a xs ∧ SqC d K H b ys ∧ (xs.length ≤ i ∨ ys.length ≤ i)⟩
def ZipSt (c d : Bool) (z TI TO i1 i2 a b : Addr) (i : Nat) (h : Heap) : Prop :=
  IsZip h z TI TO .none ∧ IsPair h TI (.ref i1) (.ref i2) ∧ (∃ u v, IsPair h TO u v) ∧ IterC c h i1 a i ∧ IterC d h i2 b i
theorem nad {n : Nat} (i j : Nat) (h : i ≠ j) : n + i ≠ n + j := fun z => h (Nat.add_left_cancel z)
theorem nad0 {n : Nat} (i : Nat) (h : i ≠ 0) : n + i ≠ n := fun z => h (Nat.add_left_cancel (z.trans (Nat.add_zero n).symm))
theorem turn_zip {P : Program} {w : World} {K : PySem.W.Frag} {elts : List Expr} {kt : Nat} {pt : Pos} (c d : Bool) (a b n : Nat) (ha : a < n) (hb : b < n) :
    Turn P w K (.Tuple elts kt pt) (Itz K c a d b) [n + 4, n + 3, n + 2, n + 1, n] (n + 4) (ZipSt c d (n + 4) (n + 2) (n + 3) n (n + 1) a b) where
  mem := by simp
  obj := fun i h st q hq => by
    obtain ⟨hz, hI, ⟨u, v, hO⟩, s1, s2⟩ := st
    simp only [List.mem_cons, List.mem_nil_iff, or_false] at hq
    rcases hq with rfl | rfl | rfl | rfl | rfl
    · exact ⟨_, hz, fun v z => by cases z⟩
    · exact ⟨_, hO, fun v z => by cases z⟩
    · exact ⟨_, hI, fun v z => by cases z⟩
    · exact s2.obj
    · exact s1.obj
  keep := fun i h h' st k => by
    obtain ⟨hz, hI, ⟨u, v, hO⟩, s1, s2⟩ := st
    exact ⟨k _ (by simp) _ hz, k _ (by simp) _ hI, ⟨u, v, k _ (by simp) _ hO⟩, s1.at (k _ (by simp)), s2.at (k _ (by simp))⟩
  item := by
    intro X hP hw hK hc i pins s σ H E I hf st hg
    subst hP hw hK
    obtain ⟨hz, hI, ⟨u0, v0, hO⟩, s1, s2⟩ := st
    obtain ⟨xs, ys, x, y, hqa, hqb, hx, hy⟩ := hg
    obtain ⟨ia, ra, pa⟩ := inv_seqC I hqa
    obtain ⟨ib, rb, pb⟩ := inv_seqC I hqb
    obtain ⟨u, hu, ru⟩ := ra.get hx
    obtain ⟨v, hv, rv⟩ := rb.get hy
    have l1 : i < ia.toArray.size := by have := (List.getElem?_eq_some_iff.mp hu).1; simpa using this
    have l2 : i < ib.toArray.size := by have := (List.getElem?_eq_some_iff.mp hv).1; simpa using this
    have an : a ≠ n := Nat.ne_of_lt ha
    have bn : b ≠ n + 1 := by omega
    refine pn_zip hz (wpAny_mono (zip_itemD (A := X.A.in1) (Q := fun v s1 => ∃ u, some v = some u ∧ wpAny (model X.prog X.w) X.A (letOwnedTupleGo (.Tuple elts kt pt) (.ref (n + 4)) u) (fun _ s2 => ∃ x H', Inv X pins σ H' s2 ∧ RelV x u ∧ (Itz X.K c a d b).yld i H x H' ∧ ZipSt c d (n + 4) (n + 2) (n + 3) n (n + 1) a b (i + 1) s2.heap ∧ ∀ b ∈ [n + 4, n + 3, n + 2, n + 1, n], H' b = none) E s1) (drawsC (A := X.A.in1) (I.ok.hd hc) c n a an ia.toArray) (drawsC (A := X.A.in1) (I.ok.hd hc) d (n + 1) b bn ib.toArray) hz hI hO ⟨s1, pa⟩ ⟨s2, pb⟩ l1 l2
      (nin2 (by first | exact nad _ _ (by decide) | exact nad0 _ (by decide) | exact (nad0 _ (by decide)).symm | omega) (by first | exact nad _ _ (by decide) | exact nad0 _ (by decide) | exact (nad0 _ (by decide)).symm | omega)) (nin2 (by first | exact nad _ _ (by decide) | exact nad0 _ (by decide) | exact (nad0 _ (by decide)).symm | omega) (by first | exact nad _ _ (by decide) | exact nad0 _ (by decide) | exact (nad0 _ (by decide)).symm | omega)) (nin2 (by first | exact nad _ _ (by decide) | exact nad0 _ (by decide) | exact (nad0 _ (by decide)).symm | omega) (by first | exact nad _ _ (by decide) | exact nad0 _ (by decide) | exact (nad0 _ (by decide)).symm | omega)) (nin2 (by first | exact nad _ _ (by decide) | exact nad0 _ (by decide) | exact (nad0 _ (by decide)).symm | omega) (by first | exact nad _ _ (by decide) | exact nad0 _ (by decide) | exact (nad0 _ (by decide)).symm | omega)) (nin2 (by first | exact nad _ _ (by decide) | exact nad0 _ (by decide) | exact (nad0 _ (by decide)).symm | omega) (by first | exact nad _ _ (by decide) | exact nad0 _ (by decide) | exact (nad0 _ (by decide)).symm | omega)) (nin2 (by first | exact nad _ _ (by decide) | exact nad0 _ (by decide) | exact (nad0 _ (by decide)).symm | omega) (by first | exact nad _ _ (by decide) | exact nad0 _ (by decide) | exact (nad0 _ (by decide)).symm | omega)) (nne (by first | exact nad _ _ (by decide) | exact nad0 _ (by decide) | exact (nad0 _ (by decide)).symm | omega)) (nne (by first | exact nad _ _ (by decide) | exact nad0 _ (by decide) | exact (nad0 _ (by decide)).symm | omega)) (nne (by first | exact nad _ _ (by decide) | exact nad0 _ (by decide) | exact (nad0 _ (by decide)).symm | omega)) (nne (by first | exact nad _ _ (by decide) | exact nad0 _ (by decide) | exact (nad0 _ (by decide)).symm | omega)) (nne (by first | exact nad _ _ (by decide) | exact nad0 _ (by decide) | exact (nad0 _ (by decide)).symm | omega)) (nne (by first | exact nad _ _ (by decide) | exact nad0 _ (by decide) | exact (nad0 _ (by decide)).symm | omega)) (nne (by first | exact nad _ _ (by decide) | exact nad0 _ (by decide) | exact (nad0 _ (by decide)).symm | omega)) (nne (by first | exact nad _ _ (by decide) | exact nad0 _ (by decide) | exact (nad0 _ (by decide)).symm | omega)) (nne (by first | exact nad _ _ (by decide) | exact nad0 _ (by decide) | exact (nad0 _ (by decide)).symm | omega)) ?_) (fun fin s' hq => hq) (fun e s' (hq : False) => hq.elim))
    intro p q h1 tk hp hq hz1 hI1 hO1 st1 st2 hT hsz hk
    have ep : p = u := by
      have e1 : ia.toArray[i]? = some p := hp
      have e2 : ia.toArray[i]? = some u := by simpa using hu
      rw [e1] at e2; exact Option.some.inj e2
    have eq' : q = v := by
      have e1 : ib.toArray[i]? = some q := hq
      have e2 : ib.toArray[i]? = some v := by simpa using hv
      rw [e1] at e2; exact Option.some.inj e2
    subst ep eq'
    refine ⟨_, rfl, wpAny_letOwnedTupleGo_zip (s := { s with heap := h1, toks := tk }) hz1 fun h2 hz2 hs2 => ?_⟩
    have hk2 : ∀ b o, b ∉ [n + 4, n + 3, n + 2, n + 1, n] → s.heap.get? b = some o → h2.get? b = some o := fun b o hb q => by
      have n1 : b ≠ n + 4 := fun z => hb (by simp [z])
      have n2 : b ≠ n + 3 := fun z => hb (by simp [z])
      have n3 : b ≠ n + 1 := fun z => hb (by simp [z])
      have n4 : b ≠ n := fun z => hb (by simp [z])
      exact (hs2.2 b n1).trans (hk b o n1 n2 n4 n3 q)
    have zs : n + 4 < s.heap.objs.size := Heap.lt_size hz
    have hT2 : h2.get? s.heap.objs.size = some { cls := .type "tuple", data := .seq #[p, q] } := (hs2.2 _ (Nat.ne_of_gt zs)).trans hT
    have hn : H s.heap.objs.size = none := I.hok.fresh (Nat.le_refl _)
    have I2 : Inv X pins σ (upd H s.heap.objs.size (.tup [x, y])) { s with heap := h2, toks := tk } := turnLaid (s := s) I hk2 hf (Nat.le_refl _) ⟨by show 2 ≤ sizeLine; decide, [p, q], .cons ru (.cons rv .nil), _, hT2, rfl, 0, rfl⟩
    refine ⟨.ref s.heap.objs.size, upd H s.heap.objs.size (.tup [x, y]), I2, rfl, ⟨_, x, y, hn, rfl, rfl, fun zs hz => by rw [inv_seqC_inj I hz hqa]; exact hx, fun zs hz => by rw [inv_seqC_inj I hz hqb]; exact hy⟩, ⟨hz2, (hs2.2 _ (nne (by first | exact nad _ _ (by decide) | exact nad0 _ (by decide) | exact (nad0 _ (by decide)).symm | omega))).trans hI1, ⟨p, q, (hs2.2 _ (nne (by first | exact nad _ _ (by decide) | exact nad0 _ (by decide) | exact (nad0 _ (by decide)).symm | omega))).trans hO1⟩, st1.1.at fun o e => (hs2.2 _ (nne (by first | exact nad _ _ (by decide) | exact nad0 _ (by decide) | exact (nad0 _ (by decide)).symm | omega))).trans e, st2.1.at fun o e => (hs2.2 _ (nne (by first | exact nad _ _ (by decide) | exact nad0 _ (by decide) | exact (nad0 _ (by decide)).symm | omega))).trans e⟩, fun q hq => ?_⟩
    have nb : q ≠ s.heap.objs.size := by
      simp only [List.mem_cons, List.mem_nil_iff, or_false] at hq
      omega
    rw [upd_ne nb]; exact (hf q hq).1
  done := by
    intro X hP hw hK hc i pins s σ H E I hf st hg
    subst hP hw hK
    obtain ⟨hz, hI, ⟨u0, v0, hO⟩, s1, s2⟩ := st
    obtain ⟨xs, ys, hqa, hqb, hl⟩ := hg
    obtain ⟨ia, ra, pa⟩ := inv_seqC I hqa
    obtain ⟨ib, rb, pb⟩ := inv_seqC I hqb
    have la := ra.length
    have lb := rb.length
    have an : a ≠ n := Nat.ne_of_lt ha
    have fin : ∀ (h' : Heap) (e : Addr) (tk : Nat), (∀ c o, c ≠ n + 4 → c ≠ n + 3 → c ≠ n → c ≠ n + 1 → s.heap.get? c = some o → h'.get? c = some o) → Inv X pins σ H { s with heap := h', toks := tk } := fun h' e tk k =>
      turnedL (fp := [n + 4, n + 3, n + 2, n + 1, n]) I (fun b o hb q => k b o (fun z => hb (by simp [z])) (fun z => hb (by simp [z])) (fun z => hb (by simp [z])) (fun z => hb (by simp [z])) q) hf
    by_cases h1 : xs.length ≤ i
    · refine pn_zip hz (zip_end1 (A := X.A.in1) (drawsC_end (A := X.A.in1) (I.ok.hd hc) c n a ia.toArray (i := i) (by simp; omega)) hz hI hO ⟨rfl, s1, pa⟩ (nin2 (by first | exact nad _ _ (by decide) | exact nad0 _ (by decide) | exact (nad0 _ (by decide)).symm | omega) (by first | exact nad _ _ (by decide) | exact nad0 _ (by decide) | exact (nad0 _ (by decide)).symm | omega)) (nne (by first | exact nad _ _ (by decide) | exact nad0 _ (by decide) | exact (nad0 _ (by decide)).symm | omega)) fun h' e tk k ho => ⟨e, rfl, ho, rfl, fin h' e tk k⟩)
    · have h2 : ys.length ≤ i := by omega
      refine pn_zip hz (zip_end2 (A := X.A.in1) (drawsC (A := X.A.in1) (I.ok.hd hc) c n a an ia.toArray) (drawsC_end (A := X.A.in1) (I.ok.hd hc) d (n + 1) b ib.toArray (i := i) (by simp; omega)) hz hI hO ⟨s1, pa⟩ ⟨rfl, s2, pb⟩ (by simp; omega) (nin2 (by first | exact nad _ _ (by decide) | exact nad0 _ (by decide) | exact (nad0 _ (by decide)).symm | omega) (by first | exact nad _ _ (by decide) | exact nad0 _ (by decide) | exact (nad0 _ (by decide)).symm | omega)) (nin2 (by first | exact nad _ _ (by decide) | exact nad0 _ (by decide) | exact (nad0 _ (by decide)).symm | omega) (by first | exact nad _ _ (by decide) | exact nad0 _ (by decide) | exact (nad0 _ (by decide)).symm | omega)) (nin2 (by first | exact nad _ _ (by decide) | exact nad0 _ (by decide) | exact (nad0 _ (by decide)).symm | omega) (by first | exact nad _ _ (by decide) | exact nad0 _ (by decide) | exact (nad0 _ (by decide)).symm | omega)) (nin2 (by first | exact nad _ _ (by decide) | exact nad0 _ (by decide) | exact (nad0 _ (by decide)).symm | omega) (by first | exact nad _ _ (by decide) | exact nad0 _ (by decide) | exact (nad0 _ (by decide)).symm | omega)) (nne (by first | exact nad _ _ (by decide) | exact nad0 _ (by decide) | exact (nad0 _ (by decide)).symm | omega)) (nne (by first | exact nad _ _ (by decide) | exact nad0 _ (by decide) | exact (nad0 _ (by decide)).symm | omega)) (nne (by first | exact nad _ _ (by decide) | exact nad0 _ (by decide) | exact (nad0 _ (by decide)).symm | omega)) (nne (by first | exact nad _ _ (by decide) | exact nad0 _ (by decide) | exact (nad0 _ (by decide)).symm | omega)) fun h' e tk k ho => ⟨e, rfl, ho, rfl, fin h' e tk k⟩)
  self := fun _ _ _ _ _ st h => wpAny_pyIter_zip st.1 h
section
variable {X : Cx} {elts : List Expr} {kt : Nat} {pt : Pos}
theorem b_zip : bootBuiltins "zip" = some (.type "zip") := by decide +kernel
def iZip (K : PySem.W.Frag) (ta : TA) : TI := fun σ H R => ta σ H fun vs H1 => ∃ (c d : Bool) (a b : Addr), vs = [.ref a, .ref b] ∧ (∃ xs, SqC c K H1 a xs) ∧ (∃ ys, SqC d K H1 b ys) ∧ R (Itz K c a d b) H1
end
end L3

namespace L3
open PySem PySem.Spec PyProof.Rows L2
section
variable {X : Cx} {elts : List Expr} {kt : Nat} {pt : Pos} {K : PySem.W.Frag}
theorem pi_zip {a b : Expr} {ta : TA} {p pos : Pos} (hK : X.K = K) (hg : Gl X "zip") (hm : X.mg "zip" = none) (ha : PA X [a, b] ta) (hs : starEach [a, b] X.env = [(false, eval a X.env), (false, eval b X.env)] := by rfl) (hs2 : starEach [b] X.env = [(false, eval b X.env)] := by rfl) :
    PI X (.Tuple elts kt pt) (.Call (.Name "zip" p) [a, b] [] pos) (iZip K ta) := by
  subst hK
  intro pins s σ H R I h
  refine Call_ (ld_blt I hg hm b_zip (PyProof.Rows.callWith_type1 (thn (ha pos pins s σ H _ I h) fun us s1 ⟨vs, H1, I1, r1, q1⟩ => ?_) (by rw [hs, hs2]) (by rw [hs2]; rfl)))
  obtain ⟨c, d, ra, rb, e, ⟨xs, hqa⟩, ⟨ys, hqb⟩, q⟩ := q1
  subst e
  obtain ⟨u, w', rfl, e1, e2⟩ := vals2 r1
  cases (show u = Value.ref ra from e1)
  cases (show w' = Value.ref rb from e2)
  obtain ⟨ia, va, pa⟩ := inv_seqC I1 hqa
  obtain ⟨ib, vb, pb⟩ := inv_seqC I1 hqb
  refine call_zipS pa.src pb.src fun h' hz hI hO h1 h2 hk => ?_
  refine wpAny_pyIter_zip (s := { s1 with heap := h' }) hz ?_
  have I2 : Inv X pins σ H1 { s1 with heap := h' } := I1.kept (t' := s1.toks) hk
  refine ⟨s1.heap.objs.size + 4, [s1.heap.objs.size + 4, s1.heap.objs.size + 3, s1.heap.objs.size + 2, s1.heap.objs.size + 1, s1.heap.objs.size], _, _, H1, rfl, I2, turn_zip c d ra rb s1.heap.objs.size pa.lt pb.lt, ⟨hz, hI, ⟨_, _, hO⟩, .mk h1, .mk h2⟩, fun b hb => ?_, q⟩
  have hle : s1.heap.objs.size ≤ b := by
    simp only [List.mem_cons, List.mem_nil_iff, or_false] at hb
    rcases hb with rfl | rfl | rfl | rfl | rfl <;> first | exact Nat.le_add_right _ _ | exact Nat.le_refl _
  exact I1.fpOk hle (I1.hok.fresh hle)
end
section
variable {K : PySem.W.Frag} {a b : Addr} {c d : Bool} {xs ys : List V} {g : TG} {tt : TT} {te : TE} {tb : TS} {D : Ends} {Q : VK} {σ : L2.St} {H : Hp}
theorem for_zip (Pv : Nat → L2.St → Hp → Prop) (h0 : Pv 0 σ H) (hl : ∀ i σ H, Pv i σ H → SqC c K H a xs ∧ SqC d K H b ys)
    (hs : ∀ i x y σ H T, xs[i]? = some x → ys[i]? = some y → Pv i σ H → H T = none → g (.ref T) σ (upd H T (.tup [x, y])) fun σ2 H2 => tb { D with nx := Pv (i + 1), ct := Pv (i + 1), bk := D.nx } σ2 H2) (hd : ∀ σ H, Pv (min xs.length ys.length) σ H → D.nx σ H) :
    ∃ W : Nat → Nat → L2.St → Hp → Prop, (∃ m, W 0 m σ H) ∧ ∀ i m σ H, W i m σ H →
      ((Itz K c a d b).stop i H ∧ D.nx σ H) ∨ ((Itz K c a d b).go i H ∧ ∃ N : L2.St → Hp → Prop, (∀ σ' H', N σ' H' → ∃ m', m' < m ∧ W (i + 1) m' σ' H') ∧ ∀ x H', (Itz K c a d b).yld i H x H' → g x σ H' fun σ2 H2 => tb { D with nx := N, ct := N, bk := D.nx } σ2 H2) := by
  refine ⟨fun i m σ H => m = min xs.length ys.length - i ∧ i ≤ min xs.length ys.length ∧ Pv i σ H, ⟨min xs.length ys.length, by simp, Nat.zero_le _, h0⟩, ?_⟩
  rintro i m σ H ⟨rfl, hi, p⟩
  obtain ⟨q1, q2⟩ := hl i σ H p
  by_cases hlt : i < min xs.length ys.length
  · have l1 : i < xs.length := by omega
    have l2 : i < ys.length := by omega
    refine .inr ⟨⟨xs, ys, xs[i], ys[i], q1, q2, by simp [l1], by simp [l2]⟩, Pv (i + 1), fun σ' H' p' => ⟨min xs.length ys.length - (i + 1), by omega, rfl, hlt, p'⟩, fun x H' y => ?_⟩
    obtain ⟨T, v, w, hT, rfl, rfl, y1, y2⟩ := y
    exact hs i v w σ H T (y1 xs q1) (y2 ys q2) p hT
  · have e : i = min xs.length ys.length := by omega
    subst e
    exact .inl ⟨⟨xs, ys, q1, q2, by omega⟩, hd σ H p⟩
end
section
variable {prog : Program} {w : World} {A : Around} {E : Value → Shared → Prop} {s : Shared}
open AutoSeq1 (wpAny_loadPart')
theorem enum_newC (t : Addr) (c : Bool) (vs : Array Value) :
    Meets (Builtin.«enumerate.__new__» ⟨[.type "enumerate", .ref t], []⟩) (fun _ R s => SeqC c s.heap t vs ∧
      R (.ok (.ret (.ref (s.heap.push (zpO (cnC c) t)).objs.size)))
        { s with heap := (s.heap.push (zpO (cnC c) t)).push { cls := .type "enumerate", data := .fields #[.none, .bool false, .ref s.heap.objs.size, rawInt 0, .none, .none] } }) :=
  .of_wp fun prog w A R s h => by
    obtain ⟨hp, g, d, tk, os⟩ := s; obtain ⟨hT, h⟩ := h
    have hT' : SrcAt (Shared.heap ⟨hp, g, d, tk, os⟩) t (cnC c) vs := hT.src
    obtain ⟨ot, hot⟩ : ∃ o, hp.get? t = some o := by
      cases c
      · obtain ⟨o, e, _⟩ := (show hp.IsList t vs from hT); exact ⟨o, e⟩
      · obtain ⟨o, e, _⟩ := (show hp.IsTuple t vs from hT); exact ⟨o, e⟩
    have hsub := sub_enumerate
    wp_walk using wpAny_loadPart' hot
    refine wpAny_stack_any fun st => wpAny_pure ?_
    split
    · rename_i c' _ _ _ _ _
      cases (c' == Value.type "enumerate") <;> (wp_walk using wpAny_loadPart' hot, SrcAt.iter hT') <;> exact ⟨_, rfl, h⟩
    · wp_walk using wpAny_loadPart' hot, SrcAt.iter hT'
      exact ⟨_, rfl, h⟩
theorem call_enumC {t : Addr} {c : Bool} {vs : Array Value} {Q : Value → Shared → Prop} (ht : SeqC c s.heap t vs)
    (h : ∀ h', IsEnum h' (s.heap.objs.size + 1) s.heap.objs.size 0 .none → IterC c h' s.heap.objs.size t 0 → h'.objs.size = s.heap.objs.size + 2 → (∀ b o, s.heap.get? b = some o → h'.get? b = some o) → Q (.ref (s.heap.objs.size + 1)) { s with heap := h' }) :
    wpAny (model prog w) A (call (.type "enumerate") [.ref t]) Q E s := by
  refine callType_new F.called_enumerate (by decide) (F.typeCall_enumerate_1 _) (F.newCall_enumerate_1 _) (fun obj => F.args_object_init_2 obj _) F.entry_enumerate_new (enum_newC t c vs) ⟨ht, ?_⟩
  have hz : (s.heap.push (zpO (cnC c) t)).objs.size = s.heap.objs.size + 1 := Heap.size_push ..
  show _ ∧ _
  rw [hz]
  have he : IsEnum ((s.heap.push (zpO (cnC c) t)).push { cls := .type "enumerate", data := .fields #[.none, .bool false, .ref s.heap.objs.size, rawInt 0, .none, .none] }) (s.heap.objs.size + 1) s.heap.objs.size 0 .none := by
    have := Heap.get?_push_size (s.heap.push (zpO (cnC c) t)) (o := { cls := .type "enumerate", data := .fields #[.none, .bool false, .ref s.heap.objs.size, rawInt 0, .none, .none] }) rfl
    rw [hz] at this; exact this
  exact ⟨⟨_, he, rfl⟩, h _ he (.mk (Heap.get?_push_of_some _ (Heap.get?_push_size _ rfl))) (by rw [Heap.size_push, Heap.size_push]) fun b o x => Heap.get?_push_of_some _ (Heap.get?_push_of_some _ x)⟩
end
def IteC (c : Bool) (K : PySem.W.Frag) (a : Addr) : It :=
  ⟨fun i H => ∃ xs x, SqC c K H a xs ∧ xs[i]? = some x, fun i H x H' => ∃ T v, H T = none ∧ x = .ref T ∧ H' = upd H T (.tup [.int i, v]) ∧ ∀ xs, SqC c K H a xs → xs[i]? = some v, fun i H => ∃ xs, SqC c K H a xs ∧ xs.length ≤ i⟩
theorem turn_enumC {P : Program} {w : World} {K : PySem.W.Frag} {elts : List Expr} {kt : Nat} {pt : Pos} (c : Bool) (a e jt : Addr) (hej : e ≠ jt) (hae : a ≠ e) (haj : a ≠ jt) :
    Turn P w K (.Tuple elts kt pt) (IteC c K a) [e, jt] e (fun i h => (∃ old, IsEnum h e jt i old) ∧ IterC c h jt a i) where
  mem := by simp
  obj := fun i h st b hb => by
    obtain ⟨⟨old, he⟩, st⟩ := st
    simp only [List.mem_cons, List.mem_nil_iff, or_false] at hb
    rcases hb with rfl | rfl
    · exact ⟨_, he, fun v z => by cases z⟩
    · exact st.obj
  keep := fun i h h' st k => by
    obtain ⟨⟨old, he⟩, st⟩ := st
    exact ⟨⟨old, k e (by simp) _ he⟩, st.at fun o q => k jt (by simp) o q⟩
  item := by
    intro X hP hw hK hc i pins s σ H E I hf st hg
    subst hP hw hK
    obtain ⟨⟨old, he⟩, hit⟩ := st
    obtain ⟨xs, x, hq, hx⟩ := hg
    obtain ⟨its, rv, p⟩ := inv_seqC I hq
    obtain ⟨u, hu, ru⟩ := rv.get hx
    have hlt : i < its.toArray.size := by have := (List.getElem?_eq_some_iff.mp hu).1; simpa using this
    refine wpAny_pyNext_enum_itemD (drawsC (A := X.A.in1) (I.ok.hd hc) c jt a haj its.toArray) he ⟨hit, p⟩ hlt hej (by simp [hej, Ne.symm hae]) fun v h1 tk hv hout hst1 hT hsz hk => ?_
    have hvu : v = u := by
      have e1 : its.toArray[i]? = some v := hv
      have e2 : its.toArray[i]? = some u := by simpa using hu
      rw [e1] at e2; exact Option.some.inj e2
    subst hvu
    refine ⟨_, rfl, wpAny_letOwnedTupleGo_enum (s := { s with heap := h1, toks := tk + 1 }) hout fun h2 he2 hs2 => ?_⟩
    have hk2 : ∀ b o, b ∉ [e, jt] → s.heap.get? b = some o → h2.get? b = some o := fun b o hb q => by
      have n1 : b ≠ e := fun z => hb (by simp [z])
      have n2 : b ≠ jt := fun z => hb (by simp [z])
      exact (hs2.2 b n1).trans (hk b o n1 n2 q)
    have eT : s.heap.objs.size ≠ e := Nat.ne_of_gt (Heap.lt_size he)
    have hT2 : h2.get? s.heap.objs.size = some { cls := .type "tuple", data := .seq #[.int i tk, v] } := (hs2.2 _ eT).trans hT
    have hn : H s.heap.objs.size = none := I.hok.fresh (Nat.le_refl _)
    have I2 : Inv X pins σ (upd H s.heap.objs.size (.tup [.int i, x])) { s with heap := h2, toks := tk + 1 } := turnLaid (s := s) I hk2 hf (Nat.le_refl _) ⟨by show 2 ≤ sizeLine; decide, [.int i tk, v], .cons ⟨_, rfl⟩ (.cons ru .nil), _, hT2, rfl, 0, rfl⟩
    refine ⟨.ref s.heap.objs.size, upd H s.heap.objs.size (.tup [.int i, x]), I2, rfl, ⟨_, x, hn, rfl, rfl, fun ys hy => by rw [inv_seqC_inj I hy hq]; exact hx⟩, ⟨⟨v, by simpa using he2⟩, ?_⟩, fun b hb => ?_⟩
    · exact hst1.1.at fun o q => (hs2.2 jt (Ne.symm hej)).trans q
    · have nb : b ≠ s.heap.objs.size := by
        obtain ⟨oj, hoj, _⟩ := hit.obj
        simp only [List.mem_cons, List.mem_nil_iff, or_false] at hb
        rcases hb with rfl | rfl
        · exact Ne.symm eT
        · exact Nat.ne_of_lt (Heap.lt_size hoj)
      rw [upd_ne nb]; exact (hf b hb).1
  done := by
    intro X hP hw hK hc i pins s σ H E I hf st hg
    subst hP hw hK
    obtain ⟨⟨old, he⟩, hit⟩ := st
    obtain ⟨xs, hq, hx⟩ := hg
    obtain ⟨its, rv, p⟩ := inv_seqC I hq
    have hl := rv.length
    refine wpAny_pyNext_enum_endD (drawsC_end (A := X.A.in1) (I.ok.hd hc) c jt a its.toArray (i := i) (by simp; omega)) he ⟨rfl, hit, p⟩ fun h' eb => ⟨rfl, ?_⟩
    exact turnedL (fp := [e, jt]) (t' := s.toks) I (fun b o hb q => eb b o (fun z => hb (by simp [z])) q) hf
  self := fun _ _ _ _ _ st h => by
    obtain ⟨⟨old, he⟩, _⟩ := st
    exact wpAny_pyIter_enum he h
section
variable {X : Cx} {elts : List Expr} {kt : Nat} {pt : Pos} {K : PySem.W.Frag}
def iEnumC (c : Bool) (K : PySem.W.Frag) (ta : TA) : TI := fun σ H R => ta σ H fun vs H1 => ∃ a xs, vs = [.ref a] ∧ SqC c K H1 a xs ∧ R (IteC c K a) H1
theorem pi_enumC {a : Expr} {ta : TA} {p pos : Pos} (c : Bool) (hK : X.K = K) (hg : Gl X "enumerate") (hm : X.mg "enumerate" = none) (ha : PA X [a] ta) (hs : starEach [a] X.env = [(false, eval a X.env)] := by rfl) :
    PI X (.Tuple elts kt pt) (.Call (.Name "enumerate" p) [a] [] pos) (iEnumC c K ta) := by
  subst hK
  intro pins s σ H R I h
  refine Call_ (ld_blt I hg hm b_enum (PyProof.Rows.callWith_type1 (thn (ha pos pins s σ H _ I h) fun us s1 ⟨vs, H1, I1, r1, q1⟩ => ?_) hs rfl))
  obtain ⟨t, xs, e, hq, q⟩ := q1
  subst e
  obtain ⟨u, rfl, e1⟩ := vals1 r1
  cases (show u = Value.ref t from e1)
  obtain ⟨its, rv, p⟩ := inv_seqC I1 hq
  refine call_enumC p fun h' he hit _ hk => ?_
  refine wpAny_pyIter_enum he ?_
  have lt : t < s1.heap.objs.size := p.lt
  have I2 : Inv X pins σ H1 { s1 with heap := h' } := I1.kept (t' := s1.toks) hk
  refine ⟨s1.heap.objs.size + 1, [s1.heap.objs.size + 1, s1.heap.objs.size], _, _, H1, rfl, I2, turn_enumC c t (s1.heap.objs.size + 1) s1.heap.objs.size (Nat.succ_ne_self _) (Nat.ne_of_lt (Nat.lt_succ_of_lt lt)) (Nat.ne_of_lt lt), ⟨⟨_, he⟩, hit⟩, fun b hb => ?_, q⟩
  simp only [List.mem_cons, List.mem_nil_iff, or_false] at hb
  rcases hb with rfl | rfl
  · exact I1.fpOk (Nat.le_succ _) (I1.hok.fresh (Nat.le_succ _))
  · exact I1.fpOk (Nat.le_refl _) (I1.hok.fresh (Nat.le_refl _))
end
section
variable {K : PySem.W.Frag} {a : Addr} {c : Bool} {xs : List V} {g : TG} {tt : TT} {te : TE} {tb : TS} {D : Ends} {Q : VK} {σ : L2.St} {H : Hp}
end
end L3

namespace L3
open PySem PySem.Spec PyProof.Rows L2
section
variable {X : Cx}
variable {K : PySem.W.Frag}
theorem pg_tupK {es : List Expr} {k : Nat} {pos : Pos} {t : TGs} (n : Nat) (h0 : X.K = K) (hc : X.calm = true) (h : PGs X es t)
    (hn : (assignEach es X.env).length = n) (hst : (assignEach es X.env).findIdx? (·.1) = none) : PG X (.Tuple es k pos) (gTup K n t) := by subst h0; exact pg_tup hc h hn hst
end
def InC (C : Int) (xs : List Int) : Prop := ∀ v ∈ xs, -C ≤ v ∧ v ≤ C
theorem InC.mono {B C : Int} {xs : List Int} (h : InC B xs) (hC : B ≤ C) : InC C xs := fun v hv => by have := h v hv; omega
theorem InC.inB {C : Int} {xs : List Int} (h : InC C xs) (hC : C < 2 ^ 300) : InB (2 ^ 300) xs := fun v hv => by have := h v hv; omega
end L3

namespace L3
open PySem PySem.Spec PyProof.Rows L2
theorem Deed.Bd.sh {d : Deed} {B : Int} {n : Nat} (h : d.Bd B) (hB : B ≤ 10 ^ 90) : Sh (deedD d) 5772 (n + 1) := sh_deedB (h.mono (Int.le_trans hB (by decide)))
theorem InC.sh {xs : List Int} {C : Int} {m n : Nat} (h : InC C xs) (hC : C ≤ 10 ^ 90) (l : xs.length ≤ m) : Sh (intsD xs) (m * 1923 + 3) (n + 1) :=
  (sh_ints (n := n) (h.inB (Int.lt_of_le_of_lt hC (by decide)))).mono (by have := Nat.mul_le_mul_right 1923 l; omega) (Nat.le_refl _)
theorem GathAt.dat {K : PySem.W.Frag} {H : Hp} {x : V} {g : List Deed × List Deed} (h : GathAt K H x g) : Dat K H x (.tuple [.tuple (g.1.map deedD), .tuple (g.2.map deedD)]) := by
  obtain ⟨r, r1, r2, rfl, h0, d1, d2⟩ := h
  exact .tup h0 (.cons d1.dat (.cons d2.dat .nil))
end L3

namespace L3
open PySem PySem.Spec PyProof.Rows L2
theorem vals_ints : ∀ {ns : List Int} {us : List Value}, IntsAre us ns → Vals (ns.map V.int) us := by
  intro ns us h
  induction h with
  | nil => exact .nil
  | cons n t _ ih => exact .cons ⟨t, rfl⟩ ih
section
variable {X : Cx} {K : PySem.W.Frag}
end
end L3

namespace L3
open PySem PySem.Spec PyProof.Rows L2
structure Wk (prog : Program) (w : World) (A : Around) (T : String) (I : Addr) (n : Nat) (Fr : Addr → Prop) (J : List Value → Shared → Prop) (Fn : List Value → Shared → Prop) : Prop where
  ty : ∀ acc s, J acc s → s.TypeIs (.ref I) T
  self : ∀ acc s (Q : Value → Shared → Prop) (E : Value → Shared → Prop), J acc s → Q (.ref I) s → wpAny (model prog w) A (pyIter (.ref I)) Q E s
  stay : ∀ acc s (S : Addr) (ob : Obj) (h' : Heap), J acc s → Fr S → s.heap.get? S = some ob → ob.cls = .type "list" → (∀ b o, b ≠ S → s.heap.get? b = some o → h'.get? b = some o) → h'.objs.size = s.heap.objs.size → J acc { s with heap := h' }
  next : ∀ acc s (S : Addr) (ob : Obj) (Q : Option Value → Shared → Prop) (E : Value → Shared → Prop), J acc s → Fr S → s.heap.get? S = some ob → ob.cls = .type "list" →
    (∀ v s', acc.length < n → J (acc ++ [v]) s' → s'.heap.get? S = some ob → Q (some v) s') → (∀ s', Fn acc s' → s'.heap.get? S = some ob → Q none s') → wpAny (model prog w) A (pyNext (.ref I)) Q E s
  push : ∀ acc s (o : Obj), J acc s → J acc { s with heap := s.heap.push o }
section
variable {prog : Program} {w : World} {A : Around} {R : Result → Shared → Prop} {T : String} {I : Addr} {n : Nat} {Fr : Addr → Prop} {J Fn : List Value → Shared → Prop}
end
section
variable {prog : Program} {w : World} {A : Around} {E : Value → Shared → Prop} {s : Shared} {T : String} {I : Addr} {n : Nat} {Fr : Addr → Prop} {J Fn : List Value → Shared → Prop}
end
end L3

namespace L3
open PySem PySem.Spec PyProof.Rows L2
section
variable {prog : Program} {w : World} {A : Around} {E : Value → Shared → Prop} {s : Shared}
end
section
variable {X : Cx} {pins : List (Addr × Obj)} {σ : L2.St} {H : Hp} {s : Shared} {h' : Heap}
end
end L3

namespace L3
open PySem PySem.Spec PyProof.Rows L2
section
variable {X : Cx} {pins : List (Addr × Obj)} {σ : L2.St} {H : Hp} {s0 : Shared} {K : PySem.W.Frag}
end
section
variable {X : Cx} {K : PySem.W.Frag} {a : Expr} {ta : TA} {p p2 pos pos2 : Pos}
end
end L3

namespace L3
open PySem PySem.Spec PyProof.Rows L2
section
variable {X : Cx} {K : PySem.W.Frag}
end
def PurseF (H : Hp) (a : Addr) : Prop := ∃ p0 c t : Int, H a = some (.lst [.int p0, .int c, .int t]) ∧ 0 ≤ p0
theorem PurseF.grow {H H' : Hp} {a : Addr} (p : PurseF H a) (g : Grow [] H H') : PurseF H' a := by
  obtain ⟨x, y, z, h, q⟩ := p
  exact ⟨x, y, z, g.keep _ _ (by simp) h, q⟩
theorem PurseF.new {H : Hp} {a l : Addr} (p : PurseF H a) (hl : H l = none) (o : HO) : PurseF (upd H l o) a := p.grow (Grow.new hl o)
theorem PurseF.ne {H : Hp} {a l : Addr} (p : PurseF H a) (h : H l = none) : l ∉ [a] := by
  intro z
  obtain ⟨x, y, w, hz, _⟩ := p
  rw [List.mem_singleton.mp z, hz] at h
  cases h
def sortI (ns : List Int) : List Int := ns.mergeSort fun a b => decide (a ≤ b)
def dupS : List Int → Option Int
  | a :: b :: r => if a = b then some a else dupS (b :: r)
  | _ => none
def levelL (rows : List (List Int)) (l : Nat) : List Int := rows.map fun r => r.getD l 0
def sharedAt (rows : List (List Int)) (l : Nat) : Option Int := dupS (sortI (levelL rows l))
def SharedIs (k : Nat) (rows : List (List Int)) (o : Option (Nat × Int)) : Prop := match o with
  | none => ∀ l, l ≤ k → sharedAt rows l = none
  | some (l, v) => l ≤ k ∧ sharedAt rows l = some v ∧ ∀ j, j < l → sharedAt rows j = none
theorem SharedIs.one {k : Nat} {rows rows' : List (List Int)} {o o' : Option (Nat × Int)} (e : ∀ l, sharedAt rows l = sharedAt rows' l) (h : SharedIs k rows o) (h' : SharedIs k rows' o') : o = o' := by
  cases o with
  | none =>
    cases o' with
    | none => rfl
    | some p =>
      obtain ⟨l, v⟩ := p
      have z := h l h'.1
      rw [e, h'.2.1] at z; cases z
  | some p =>
    obtain ⟨l, v⟩ := p
    cases o' with
    | none =>
      have z := h' l h.1
      rw [← e, h.2.1] at z; cases z
    | some p' =>
      obtain ⟨l', v'⟩ := p'
      obtain ⟨a1, a2, a3⟩ := h
      obtain ⟨b1, b2, b3⟩ := h'
      by_cases c : l < l'
      · have z := b3 l c
        rw [← e, a2] at z; cases z
      · by_cases c2 : l' < l
        · have z := a3 l' c2
          rw [e, b2] at z; cases z
        · have : l = l' := by omega
          subst this
          rw [e, b2] at a2
          cases a2; rfl
def ClashAt (K : PySem.W.Frag) (H : Hp) (x : V) (o : Option (Nat × Int)) : Prop := match o with
  | none => x = .non
  | some (l, v) => ∃ r, x = .ref r ∧ SqT K H r [.int l, .int v]
theorem Grow.clash {m : List Addr} {H H' : Hp} (g : Grow m H H') {K : PySem.W.Frag} {x : V} {o : Option (Nat × Int)} (h : ClashAt K H x o) : ClashAt K H' x o := by
  cases o with
  | none => exact h
  | some p =>
    obtain ⟨l, v⟩ := p
    obtain ⟨r, e, z⟩ := h
    exact ⟨r, e, g.sqT z⟩
end L3

namespace L3
open PySem PySem.Spec PyProof.Rows L2
mutual
inductive Dq (K : PySem.W.Frag) (H : Hp) : V → PyData → Prop
  | non : Dq K H .non .none
  | bl (b : Bool) : Dq K H (.bl b) (.bool b)
  | int (i : Int) : Dq K H (.int i) (.int i)
  | str (x : Str) : Dq K H (.str x) (.str x)
  | tup {a : Addr} {xs : List V} {ds : List PyData} : SqT K H a xs → DqAll K H xs ds → Dq K H (.ref a) (.tuple ds)
  | lst {a : Addr} {xs : List V} {ds : List PyData} : SqL K H a xs → DqAll K H xs ds → Dq K H (.ref a) (.list ds)
inductive DqAll (K : PySem.W.Frag) (H : Hp) : List V → List PyData → Prop
  | nil : DqAll K H [] []
  | cons {x : V} {xs : List V} {d : PyData} {ds : List PyData} : Dq K H x d → DqAll K H xs ds → DqAll K H (x :: xs) (d :: ds)
end
mutual
theorem Dat.dq {K : PySem.W.Frag} {H : Hp} : ∀ {x : V} {d : PyData}, Dat K H x d → Dq K H x d
  | _, _, .non => .non
  | _, _, .bl b => .bl b
  | _, _, .int i => .int i
  | _, _, .tup h t => .tup h (DatAll.dq t)
  | _, _, .lst h t => .lst h (DatAll.dq t)
theorem DatAll.dq {K : PySem.W.Frag} {H : Hp} : ∀ {xs : List V} {ds : List PyData}, DatAll K H xs ds → DqAll K H xs ds
  | _, _, .nil => .nil
  | _, _, .cons h t => .cons (Dat.dq h) (DatAll.dq t)
end
theorem DqAll.len {K : PySem.W.Frag} {H : Hp} : ∀ {xs : List V} {ds : List PyData}, DqAll K H xs ds → xs.length = ds.length
  | _, _, .nil => rfl
  | _, _, .cons _ t => congrArg (· + 1) (DqAll.len t)
theorem DqAll.app {K : PySem.W.Frag} {H : Hp} : ∀ {xs : List V} {ds : List PyData} {ys : List V} {es : List PyData}, DqAll K H xs ds → DqAll K H ys es → DqAll K H (xs ++ ys) (ds ++ es)
  | _, _, _, _, .nil, h => h
  | _, _, _, _, .cons h t, g => .cons h (DqAll.app t g)
theorem all_true (n : Nat) : (List.range n).all (fun _ => true) = true := List.all_eq_true.mpr fun _ _ => rfl
section
variable {X : Cx} {pins : List (Addr × Obj)} {σ : L2.St} {H : Hp} {s : Shared}
mutual
theorem dq_eq (I : Inv X pins σ H s) : ∀ {d : PyData} {x y : V} {u v : Value} {A : Around}, Dq X.K H x d → Dq X.K H y d → RelV x u → RelV y v → A.units + d.depth < cLine → SeqAt.EqAt A s u v true
  | _, _, y, u, v, A, .non, hy, ru, rv, _ => by
    cases hy
    cases (show u = Value.none from ru)
    cases (show v = Value.none from rv)
    exact SeqAt.EqAt.same _
  | _, _, y, u, v, A, .bl b, hy, ru, rv, _ => by
    cases hy
    cases (show u = Value.bool b from ru)
    cases (show v = Value.bool b from rv)
    exact SeqAt.EqAt.same _
  | _, _, y, u, v, A, .int i, hy, ru, rv, _ => by
    cases hy
    obtain ⟨t, rfl⟩ := ru
    obtain ⟨t', rfl⟩ := rv
    have z := SeqAt.EqAt.int_int (A := A) (s := s) i t i t'
    rw [beq_self_eq_true] at z
    exact z
  | _, _, y, u, v, A, .str x, hy, ru, rv, _ => by
    cases hy
    obtain ⟨t, rfl⟩ := ru
    obtain ⟨t', rfl⟩ := rv
    have z := SeqAt.EqAt.str_str (A := A) (s := s) x t x t'
    rw [beq_self_eq_true] at z
    exact z
  | _, _, y, u, v, A, .tup (a := a) (xs := xs) (ds := ds) hs ha, hy, ru, rv, hu => by
    cases hy with
    | tup hs' ha' =>
      rename_i a' xs'
      cases (show u = Value.ref a from ru)
      cases (show v = Value.ref a' from rv)
      obtain ⟨us, r1, t1, _⟩ := I.tuple hs
      obtain ⟨ws, r2, t2, _⟩ := I.tuple hs'
      have hd : A.units + (PyData.depthAll ds + 1) < cLine := hu
      by_cases e : a = a'
      · subst e; exact SeqAt.EqAt.same _
      · have l1 := ha.len
        have l2 := ha'.len
        have q := SeqAt.RcAt.tuples (e := fun _ => true) (isTuple_of t1) (isTuple_of t2) (by omega) (dqs_eq I ha ha' r1 r2 (A := A.in1) (by show A.units + 1 + PyData.depthAll ds < cLine; omega))
        rw [all_true, Bool.true_and, List.size_toArray, List.size_toArray, ← r1.length, ← r2.length, l1, l2, beq_self_eq_true] at q
        exact SeqAt.EqAt.of_refs e q
  | _, _, y, u, v, A, .lst (a := a) (xs := xs) (ds := ds) hs ha, hy, ru, rv, hu => by
    cases hy with
    | lst hs' ha' =>
      rename_i a' xs'
      cases (show u = Value.ref a from ru)
      cases (show v = Value.ref a' from rv)
      obtain ⟨us, r1, t1, _⟩ := I.list hs
      obtain ⟨ws, r2, t2, _⟩ := I.list hs'
      have hd : A.units + (PyData.depthAll ds + 1) < cLine := hu
      by_cases e : a = a'
      · subst e; exact SeqAt.EqAt.same _
      · have l1 := ha.len
        have l2 := ha'.len
        have q := SeqAt.RcAt.lists (e := fun _ => true) t1.isList t2.isList (by rw [List.size_toArray, List.size_toArray, ← r1.length, ← r2.length, l1, l2]) (by omega) (dqs_eq I ha ha' r1 r2 (A := A.in1) (by show A.units + 1 + PyData.depthAll ds < cLine; omega))
        rw [all_true] at q
        exact SeqAt.EqAt.of_refs e q
theorem dqs_eq (I : Inv X pins σ H s) : ∀ {ds : List PyData} {xs ys : List V} {us vs : List Value} {A : Around}, DqAll X.K H xs ds → DqAll X.K H ys ds → Vals xs us → Vals ys vs → A.units + PyData.depthAll ds < cLine →
    ∀ j (h1 : j < us.toArray.size) (h2 : j < vs.toArray.size), SeqAt.EqAt A s us.toArray[j] vs.toArray[j] true
  | _, _, _, _, _, A, .nil, hy, ru, rv, _ => fun j h1 _ => by
    cases ru
    exact absurd h1 (Nat.not_lt_zero j)
  | _, _, _, _, _, A, .cons (d := d) (ds := ds) hx tx, hy, ru, rv, hd => fun j h1 h2 => by
    cases hy with
    | cons hy ty =>
      cases ru with
      | cons r1 rr1 =>
        cases rv with
        | cons r2 rr2 =>
          have hd' : A.units + max d.depth (PyData.depthAll ds) < cLine := hd
          cases j with
          | zero => simpa using dq_eq I hx hy r1 r2 (A := A) (by omega)
          | succ j =>
            have z := dqs_eq I tx ty rr1 rr2 (A := A) (by omega) j (by simpa using h1) (by simpa using h2)
            simpa using z
end
variable {K : PySem.W.Frag}
def rSame (K : PySem.W.Frag) (neg : Bool) : R2 := fun x y H Q => ∃ d, Dq K H x d ∧ Dq K H y d ∧ (∃ a, x = .ref a) ∧ d.depth ≤ 100 ∧ Q (.bl neg) H
theorem op_eqD {k : Nat} (hK : X.K = K) (hr : Room k X.A) : OpR X (compareOp .Eq) (rSame K true) := by
  subst hK
  intro pins s σ H x y u v Q I rx ry h
  obtain ⟨d, hx, hy, ⟨a0, e0⟩, hd, q⟩ := h
  have hu := hr.un
  cases hx with
  | non => cases e0
  | bl b => cases e0
  | int i => cases e0
  | str x => cases e0
  | tup hs ha =>
    cases hy with
    | tup hs' ha' =>
      rename_i a xs ds a' xs'
      cases (show u = Value.ref a from rx)
      cases (show v = Value.ref a' from ry)
      obtain ⟨us, r1, t1, _⟩ := I.tuple hs
      obtain ⟨ws, r2, t2, _⟩ := I.tuple hs'
      have hd' : PyData.depthAll ds + 1 ≤ 100 := hd
      refine SeqAt.eq_tupleAt (e := fun _ => true) (isTuple_of t1) (isTuple_of t2) hr.units0 (dqs_eq I ha ha' r1 r2 (A := X.A.in1) (by show X.A.units + 1 + PyData.depthAll ds < cLine; omega)) ?_
      rw [all_true, Bool.true_and, List.size_toArray, List.size_toArray, ← r1.length, ← r2.length, ha.len, ha'.len, beq_self_eq_true]
      exact ⟨.bl true, H, I, rfl, q⟩
  | lst hs ha =>
    cases hy with
    | lst hs' ha' =>
      rename_i a xs ds a' xs'
      cases (show u = Value.ref a from rx)
      cases (show v = Value.ref a' from ry)
      obtain ⟨us, r1, t1, _⟩ := I.list hs
      obtain ⟨ws, r2, t2, _⟩ := I.list hs'
      have hd' : PyData.depthAll ds + 1 ≤ 100 := hd
      refine SeqAt.eq_listAt (e := fun _ => true) t1.isList t2.isList (by rw [List.size_toArray, List.size_toArray, ← r1.length, ← r2.length, ha.len, ha'.len]) hr.units0 (dqs_eq I ha ha' r1 r2 (A := X.A.in1) (by show X.A.units + 1 + PyData.depthAll ds < cLine; omega)) ?_
      rw [all_true]
      exact ⟨.bl true, H, I, rfl, q⟩
theorem op_neD {k : Nat} (hK : X.K = K) (hr : Room k X.A) : OpR X (compareOp .NotEq) (rSame K false) := by
  subst hK
  intro pins s σ H x y u v Q I rx ry h
  obtain ⟨d, hx, hy, ⟨a0, e0⟩, hd, q⟩ := h
  have hu := hr.un
  cases hx with
  | non => cases e0
  | bl b => cases e0
  | int i => cases e0
  | str x => cases e0
  | tup hs ha =>
    cases hy with
    | tup hs' ha' =>
      rename_i a xs ds a' xs'
      cases (show u = Value.ref a from rx)
      cases (show v = Value.ref a' from ry)
      obtain ⟨us, r1, t1, _⟩ := I.tuple hs
      obtain ⟨ws, r2, t2, _⟩ := I.tuple hs'
      have hd' : PyData.depthAll ds + 1 ≤ 100 := hd
      refine SeqAt.RcNeAt.tuples (e := fun _ => true) (isTuple_of t1) (isTuple_of t2) hr.units0 (dqs_eq I ha ha' r1 r2 (A := X.A.in1) (by show X.A.units + 1 + PyData.depthAll ds < cLine; omega)) _ _ _ _ ?_
      rw [all_true, Bool.true_and, List.size_toArray, List.size_toArray, ← r1.length, ← r2.length, ha.len, ha'.len, beq_self_eq_true]
      exact ⟨.bl false, H, I, rfl, q⟩
  | lst hs ha =>
    cases hy with
    | lst hs' ha' =>
      rename_i a xs ds a' xs'
      cases (show u = Value.ref a from rx)
      cases (show v = Value.ref a' from ry)
      obtain ⟨us, r1, t1, _⟩ := I.list hs
      obtain ⟨ws, r2, t2, _⟩ := I.list hs'
      have hd' : PyData.depthAll ds + 1 ≤ 100 := hd
      refine SeqAt.RcNeAt.lists (e := fun _ => true) t1.isList t2.isList (by rw [List.size_toArray, List.size_toArray, ← r1.length, ← r2.length, ha.len, ha'.len]) hr.units0 (dqs_eq I ha ha' r1 r2 (A := X.A.in1) (by show X.A.units + 1 + PyData.depthAll ds < cLine; omega)) _ _ _ _ ?_
      rw [all_true]
      exact ⟨.bl false, H, I, rfl, q⟩
end
end L3

namespace L3
open PySem PySem.Spec PyProof.Rows L2
def xN (k st a : Nat) : Nat := a ^^^ 2 ^ (k - st)
def nN (k st a : Nat) : Nat := (numsL k a st).toNat
def lN (k h g n : Nat) : Nat := (lineL k h g n).toNat
structure OneF (k st a : Nat) : Prop where
  sw : swI k st a = numsL k a st
  num : numsL k a st = (nN k st a : Int)
  lt : nN k st a < 2 ^ (k - 1)
  nx : nN k st (xN k st a) = nN k st a
  xx : xN k st (xN k st a) = a
  xne : xN k st a ≠ a
  xlt : xN k st a < 2 ^ k
  w0 : wfI k st a (Builtin.bitXor (figI k st a) 0) = (a : Int)
  w1 : wfI k st a (Builtin.bitXor (figI k st a) 1) = (xN k st a : Int)
  c1 : Builtin.bitXor (figI k st a) (figI k st (xN k st a)) = 1
  c0 : Builtin.bitXor (figI k st a) (figI k st a) = 0
  b0 : Builtin.bitXor (figI k st a) 0 = 0 ∨ Builtin.bitXor (figI k st a) 0 = 1
  b1 : Builtin.bitXor (figI k st a) 1 = 0 ∨ Builtin.bitXor (figI k st a) 1 = 1
def plOf (gs : List Nat) : List (Nat × Nat) := (List.range gs.length).map fun h => (h, gs.getD h 0)
def SidesOk (k : Nat) (gs : List Nat) : Prop := gs.length = 2 ^ k ∧ ∀ g ∈ gs, g < 2 ^ k
theorem SidesOk.get {k : Nat} {gs : List Nat} (h : SidesOk k gs) {i : Nat} (hi : i < 2 ^ k) : gs.getD i 0 < 2 ^ k := by
  rw [List.getD_eq_getElem?_getD, List.getElem?_eq_getElem (by rw [h.1]; exact hi)]
  exact h.2 _ (List.getElem_mem _)
def crossI (k st : Nat) (q : Nat × Nat) : Int := Builtin.bitXor (figI k st (lineL k q.1 q.2 (st - 1))) (figI k st (lineL k q.1 q.2 st))
def marksF (k st : Nat) (m : List Int) (q : Nat × Nat) : List Int := m.set (nN k st (lN k q.1 q.2 st)) (crossI k st q)
def marksR (k st : Nat) (pl : List (Nat × Nat)) : List Int := pl.foldl (marksF k st) (List.replicate (2 ^ k / 2) 0)
def setsL (k : Nat) (gs : List Nat) : List (List Int) := (List.range k).map fun n => marksR k (n + 1) (plOf gs)
end L3

namespace L3
open PySem PySem.Spec PyProof.Rows L2
section
variable {X : Cx} {a : Expr} {ta : TA} {p p2 pos pos2 : Pos}
end
end L3

namespace L3
open PySem PySem.Spec PyProof.Rows L2
def AnsAt (K : PySem.W.Frag) (H : Hp) (x : V) (k : Nat) (gs : List Nat) (o : Option (Nat × Int)) : Prop := ∃ (r : Addr) (s : Str) (y : V), x = .ref r ∧ SqT K H r [.str s, y] ∧ match o with
  | none => s = "settings" ∧ RowsAt K H y (setsL k gs)
  | some (l, v) => s = "clash" ∧ ∃ c, y = .ref c ∧ SqT K H c [.int l, .int v]
theorem Grow.ans {m : List Addr} {H H' : Hp} (g : Grow m H H') {K : PySem.W.Frag} {x : V} {k : Nat} {gs : List Nat} {o : Option (Nat × Int)} (h : AnsAt K H x k gs o) : AnsAt K H' x k gs o := by
  obtain ⟨r, s, y, e, z, w⟩ := h
  refine ⟨r, s, y, e, g.sqT z, ?_⟩
  cases o with
  | none => exact ⟨w.1, g.rows w.2⟩
  | some p =>
    obtain ⟨l, v⟩ := p
    obtain ⟨w1, c, e, z⟩ := w
    exact ⟨w1, c, e, g.sqT z⟩
theorem dq_ints {K : PySem.W.Frag} {H : Hp} : ∀ (ns : List Int), DqAll K H (ns.map V.int) (ns.map PyData.int)
  | [] => .nil
  | n :: ns => .cons (.int n) (dq_ints ns)
def rowD (r : List Int) : PyData := .tuple (r.map PyData.int)
theorem dep_ints : ∀ ns : List Int, PyData.depthAll (ns.map PyData.int) = 0
  | [] => rfl
  | n :: ns => by
    show max (PyData.depth (.int n)) (PyData.depthAll (ns.map PyData.int)) = 0
    rw [dep_ints ns]; rfl
theorem dep_rows : ∀ rows : List (List Int), PyData.depthAll (rows.map rowD) ≤ 1
  | [] => Nat.zero_le _
  | r :: rows => by
    show max (PyData.depthAll (r.map PyData.int) + 1) (PyData.depthAll (rows.map rowD)) ≤ 1
    have := dep_rows rows
    rw [dep_ints]; omega
theorem dq_row {K : PySem.W.Frag} {H : Hp} {x : V} {r : List Int} (h : BoardAt K H x r) : Dq K H x (rowD r) := by
  obtain ⟨a, rfl, h⟩ := h
  exact .tup h (dq_ints r)
theorem dq_rowsA {K : PySem.W.Frag} {H : Hp} : ∀ {xs : List V} {rows : List (List Int)}, AllR (BoardAt K H) xs rows → DqAll K H xs (rows.map rowD)
  | [], [], _ => .nil
  | _ :: _, _ :: _, ⟨h, t⟩ => .cons (dq_row h) (dq_rowsA t)
  | [], _ :: _, h => h.elim
  | _ :: _, [], h => h.elim
theorem SidesOk.set {k : Nat} {gs : List Nat} (h : SidesOk k gs) {j n : Nat} (hn : n < 2 ^ k) : SidesOk k (gs.set j n) := by
  refine ⟨by rw [List.length_set, h.1], fun g hg => ?_⟩
  rcases List.mem_or_eq_of_mem_set hg with z | rfl
  · exact h.2 g z
  · exact hn
end L3

namespace L3
open PySem PySem.Spec PyProof.Rows L2
section
variable {prog : Program} {w : World} {A : Around} {E : Value → Shared → Prop} {s : Shared}
end
section
variable {X : Cx} {K : PySem.W.Frag}
end
end L3

namespace L3
open PySem PySem.Spec PyProof.Rows L2
section
variable {prog : Program} {w : World} {A : Around} {E : Value → Shared → Prop} {s : Shared}
end
section
variable {X : Cx} {K : PySem.W.Frag}
end
end L3

namespace L3
open PySem PySem.Spec PyProof.Rows L2
def wfN (k s l : Nat) (w : Int) : Nat := (wfI k s l w).toNat
structure WfF (k s l : Nat) (w : Int) : Prop where
  eq : wfI k s l w = (wfN k s l w : Int)
  lt : wfN k s l w < 2 ^ k
  at_ : figI k s (wfN k s l w) = w
  off : ∀ t : Nat, t ≤ k → t ≠ s → figI k t (wfN k s l w) = figI k t l
def mixN (k e x t : Nat) : Nat := (numL ((figsL k e).take (t - 1) ++ (figsL k x).drop t)).toNat
def fstI (rows : List (List Int)) (t n : Nat) : Int := (rows.getD (t - 1) []).getD n 0
def Ahead (k : Nat) (rows : List (List Int)) (e m x y : Nat) : Prop := ∃ t : Nat, m < t ∧ t ≤ k ∧ figI k t x ≠ figI k t y ∧ (∀ u : Nat, t < u → u ≤ k → figI k u x = figI k u y) ∧ figI k t x = fstI rows t (mixN k e x t)
structure OrdF (k : Nat) (rows : List (List Int)) (e n : Nat) (L : List Nat) : Prop where
  len : L.length = 2 ^ n
  mem : ∀ x ∈ L, x < 2 ^ k ∧ ∀ t : Nat, 1 ≤ t → t ≤ k - n → figI k t x = figI k t e
  all : ∀ x : Nat, x < 2 ^ k → (∀ t : Nat, 1 ≤ t → t ≤ k - n → figI k t x = figI k t e) → x ∈ L
  row : L.Pairwise (Ahead k rows e (k - n))
end L3

namespace L3
open PySem PySem.Spec PyProof.Rows L2
section
variable {lo : Int} {n k : Nat} {tt : TT} {te : TE} {Q : VK} {σ : L2.St} {H : Hp}
end
end L3

namespace L3
open PySem PySem.Spec PyProof.Rows L2
def LsR (H : Hp) (x : V) (row : List Int) : Prop := ∃ r, x = .ref r ∧ H r = some (.lst (row.map V.int))
def LsB (H : Hp) (x : V) (rows : List (List Int)) : Prop := ∃ l xs, x = .ref l ∧ H l = some (.lst xs) ∧ AllR (LsR H) xs rows
def LsN (a : Addr) (H : Hp) (x : V) (row : List Int) : Prop := ∃ r, x = .ref r ∧ r ∉ [a] ∧ H r = some (.lst (row.map V.int))
def LsA (a : Addr) (H : Hp) (x : V) (rows : List (List Int)) : Prop := ∃ l xs, x = .ref l ∧ l ∉ [a] ∧ H l = some (.lst xs) ∧ AllR (LsN a H) xs rows
theorem LsA.b {a : Addr} {H : Hp} {x : V} {rows : List (List Int)} (h : LsA a H x rows) : LsB H x rows := by
  obtain ⟨l, xs, e, n, z, w⟩ := h
  exact ⟨l, xs, e, z, w.imp fun _ _ ⟨r, e, _, z⟩ => ⟨r, e, z⟩⟩
end L3

namespace L3
open PySem PySem.Spec PyProof.Rows L2
end L3

namespace L3
open PySem PySem.Spec PyProof.Rows L2
section
variable {X : Cx}
end
end L3
namespace L3
open PySem PySem.Spec PyProof.Rows L2
end L3

namespace L3
open PySem PySem.Spec PyProof.Rows L2
section
variable {X : Cx}
end
end L3

namespace L3
open PySem PySem.Spec PyProof.Rows L2
end L3

namespace L3
open PySem PySem.Spec PyProof.Rows L2
section
variable {X : Cx} {K : PySem.W.Frag}
end
end L3

namespace L3
open PySem PySem.Spec PyProof.Rows L2
section
variable {prog : Program} {w : World} {A : Around} {E : Value → Shared → Prop} {s : Shared}
end
end L3

namespace L3
open PySem PySem.Spec PyProof.Rows L2
section
variable {prog : Program} {w : World} {A : Around} {E : Value → Shared → Prop} {s : Shared}
end
section
variable {X : Cx} {nm : Str} {pt : Pos} {K : PySem.W.Frag}
end
end L3

namespace L3
open PySem PySem.Spec PyProof.Rows L2
section
variable {X : Cx} {K : PySem.W.Frag}
end
section
variable {X : Cx}
end
section
variable {lo : Int} {n k : Nat} {te : TE} {Q : VK} {σ : L2.St} {H : Hp}
end
end L3

namespace L3
open PySem PySem.Spec PyProof.Rows L2
def RowsIn (K : PySem.W.Frag) (H : Hp) (f : Addr) (rows : List (List Int)) : Prop := ∃ xs, H f = some (.lst xs) ∧ AllR (BoardAt K H) xs rows
theorem RowsIn.grow {K : PySem.W.Frag} {H H' : Hp} {f : Addr} {rows : List (List Int)} (h : RowsIn K H f rows) (g : Grow [] H H') : RowsIn K H' f rows := by
  obtain ⟨xs, e, a⟩ := h
  exact ⟨xs, g.keep _ _ (by simp) e, g.boardsR a⟩
theorem RowsIn.ne {K : PySem.W.Frag} {H : Hp} {f r : Addr} {rows : List (List Int)} (h : RowsIn K H f rows) (e : H r = none) : r ≠ f := by
  obtain ⟨xs, e', _⟩ := h
  intro z; rw [z, e'] at e; cases e
end L3
namespace L3
open PySem PySem.Spec PyProof.Rows L2
end L3
namespace L3
open PySem PySem.Spec PyProof.Rows L2
theorem RowsIn.set {K : PySem.W.Frag} {H : Hp} {f : Addr} {rows : List (List Int)} {xs : List V} (e : H f = some (.lst xs)) (a : AllR (BoardAt K H) xs rows) : RowsIn K H f rows := ⟨xs, e, a⟩
end L3
namespace L3
open PySem PySem.Spec PyProof.Rows L2
end L3

namespace L3
open PySem PySem.Spec PyProof.Rows L2
abbrev cxO (X : Cx) (N' : List Str) (scope : Scope) (cl : List (Str × Addr)) (C D : Addr) (fp : List Addr) (s : Shared) (H : Hp) : Cx :=
  { X with N := N', s₀ := s, H₀ := H, env := compEnvC scope cl C X.env, outer := X.stack, ex := D :: fp, fn := fun x => scope.names.lookup x == some .cell, xe := fun _ _ => False }
structure CScC (X : Cx) (scope : Scope) (N' : List Str) (sub : List (Option Nat)) : Prop where
  free : ∀ y ∈ scope.names, y.2 = .free → X.env.kindOf y.1 = some .cell
  nd : (scope.names.map (·.1)).Nodup
  kind : scope.kind = .function
  names : ∀ y ∈ scope.names, y.2 = .local → scope.names.lookup y.1 = some .local
  len : sub.length = N'.length
  cap : ∀ (j : Nat) (y : Str) (i : Nat), N'[j]? = some y → sub[j]? = some (some i) → X.N[i]? = some y ∧ X.env.scope.names.lookup y = some .cell ∧ scope.names.lookup y = some .free
theorem lookup_app {α : Type} {x : Str} {c : α} : ∀ {a b : List (Str × α)}, (a ++ b).lookup x = some c → a.lookup x = some c ∨ (a.lookup x = none ∧ b.lookup x = some c)
  | [], b, h => .inr ⟨rfl, h⟩
  | (k, v) :: r, b, h => by
    rw [List.cons_append, List.lookup_cons] at h
    rw [List.lookup_cons]
    cases hb : x == k with
    | true => rw [hb] at h; exact .inl h
    | false => rw [hb] at h; exact lookup_app h
theorem lookup_own {α : Type} {x : Str} {a b : List (Str × α)} (h : ∃ c, a.lookup x = some c) : ∃ c, (a ++ b).lookup x = some c := by
  induction a with
  | nil => obtain ⟨c, h⟩ := h; cases h
  | cons p r ih =>
    obtain ⟨k, v⟩ := p
    rw [List.lookup_cons] at h
    rw [List.cons_append, List.lookup_cons]
    cases hb : x == k with
    | true => exact ⟨v, rfl⟩
    | false => rw [hb] at h; exact ih h
theorem lookup_more {α : Type} {x : Str} {a b : List (Str × α)} (h : ∃ c, b.lookup x = some c) : ∃ c, (a ++ b).lookup x = some c := by
  induction a with
  | nil => exact h
  | cons p r ih =>
    obtain ⟨k, v⟩ := p
    rw [List.cons_append, List.lookup_cons]
    cases hb : x == k with
    | true => exact ⟨v, rfl⟩
    | false => exact ih
theorem lookup_past {α : Type} {x : Str} {c : α} {a b : List (Str × α)} (h : a.lookup x = none) (e : b.lookup x = some c) : (a ++ b).lookup x = some c := by
  induction a with
  | nil => exact e
  | cons p r ih =>
    obtain ⟨k, v⟩ := p
    rw [List.lookup_cons] at h
    rw [List.cons_append, List.lookup_cons]
    cases hb : x == k with
    | true => rw [hb] at h; cases h
    | false => rw [hb] at h; exact ih h
theorem cells_app : ∀ (names : List (Str × NameKind)) (n : Nat) (acc more : List (Str × Addr)), cellsFrom n names (acc ++ more) = cellsFrom n names acc ++ more
  | [], _, _, _ => rfl
  | (x, k) :: r, n, acc, more => by
    unfold cellsFrom
    split
    · exact cells_app r (n + 1) ((x, n) :: acc) more
    · exact cells_app r n acc more
theorem cells_mem : ∀ {names : List (Str × NameKind)} {n : Nat} {acc : List (Str × Addr)} {x : Str} {c : Addr}, (x, c) ∈ cellsFrom n names acc → (x, c) ∈ acc ∨ (x, NameKind.cell) ∈ names
  | [], _, _, _, _, h => .inl h
  | (y, k) :: r, n, acc, x, c, h => by
    unfold cellsFrom at h
    split at h
    · rename_i hk
      have hk' : k = .cell := by simpa using hk
      rcases cells_mem h with z | z
      · rcases List.mem_cons.mp z with e | z
        · cases e; exact .inr (by rw [hk']; simp)
        · exact .inl z
      · exact .inr (List.mem_cons_of_mem _ z)
    · rcases cells_mem h with z | z
      · exact .inl z
      · exact .inr (List.mem_cons_of_mem _ z)
theorem lookup_isSome {α : Type} {x : Str} : ∀ {a : List (Str × α)}, x ∈ a.map (·.1) → ∃ c, a.lookup x = some c
  | (k, v) :: r, h => by
    rw [List.lookup_cons]
    cases hb : x == k with
    | true => exact ⟨v, rfl⟩
    | false =>
      rcases List.mem_cons.mp h with e | h
      · rw [e] at hb; simp at hb
      · exact lookup_isSome h
theorem cells_keep : ∀ {names : List (Str × NameKind)} {n : Nat} {acc : List (Str × Addr)} {x : Str}, x ∈ acc.map (·.1) → x ∈ (cellsFrom n names acc).map (·.1)
  | [], _, _, _, h => h
  | (y, k) :: r, n, acc, x, h => by
    unfold cellsFrom
    split
    · exact cells_keep (by rw [List.map_cons]; exact List.mem_cons_of_mem _ h)
    · exact cells_keep h
theorem cells_in : ∀ {names : List (Str × NameKind)} {n : Nat} {acc : List (Str × Addr)} {x : Str}, (x, NameKind.cell) ∈ names → x ∈ (cellsFrom n names acc).map (·.1)
  | (y, k) :: r, n, acc, x, h => by
    unfold cellsFrom
    rcases List.mem_cons.mp h with e | h
    · cases e
      rw [if_pos (by decide)]
      exact cells_keep (by rw [List.map_cons]; exact List.mem_cons_self)
    · split <;> exact cells_in h
theorem cells_has {names : List (Str × NameKind)} {n : Nat} {x : Str} (h : (x, NameKind.cell) ∈ names) : ∃ c, (cellsFrom n names []).lookup x = some c := lookup_isSome (cells_in h)
theorem cells_not {names : List (Str × NameKind)} {n : Nat} {x : Str} (nd : (names.map (·.1)).Nodup) (h : (x, NameKind.free) ∈ names) : (cellsFrom n names []).lookup x = none := by
  cases e : (cellsFrom n names []).lookup x with
  | none => rfl
  | some c =>
    rcases cells_mem (PySem.mem_of_lookup e) with z | z
    · cases z
    · have key : ∀ {l : List (Str × NameKind)}, (l.map (·.1)).Nodup → (x, NameKind.free) ∈ l → (x, NameKind.cell) ∈ l → False := by
        intro l
        induction l with
        | nil => intro _ h; cases h
        | cons p r ih =>
          intro nd h1 h2
          rw [List.map_cons, List.nodup_cons] at nd
          rcases List.mem_cons.mp h1 with e1 | h1 <;> rcases List.mem_cons.mp h2 with e2 | h2
          · rw [← e1] at e2; cases e2
          · exact nd.1 (by rw [← e1]; exact List.mem_map.mpr ⟨_, h2, rfl⟩)
          · exact nd.1 (by rw [← e2]; exact List.mem_map.mpr ⟨_, h1, rfl⟩)
          · exact ih nd.2 h1 h2
      exact (key nd h z).elim
section
variable {X : Cx} {pins : List (Addr × Obj)} {σ : L2.St} {H2 : Hp} {s₂ : Shared} {it : Addr} {fp : List Addr} {tn : Nat → Heap → Prop} {J : It} {scope : Scope} {cl : List (Str × Addr)} {N' : List Str} {sub : List (Option Nat)}
theorem comp_startC {h₁ : Heap} {tk : Nat} (I : Inv X pins σ H2 s₂) (S : CScC X scope N' sub) (hcl1 : ∀ x c, cl.lookup x = some c → X.env.cells.lookup x = some c) (hcl2 : ∀ y ∈ scope.names, y.2 = .free → ∃ c, cl.lookup y.1 = some c)
    (hcc : CellsOk h₁ (s₂.heap.objs.size + 2) (cellsFrom (s₂.heap.objs.size + 2) scope.names []))
    (f2 : ∀ b ∈ fp, FpOk X pins H2 b) (hfp : ∀ b ∈ fp, b < s₂.heap.objs.size) {m : Str → Option Value} {ob : Obj}
    (hns : h₁.Ns (s₂.heap.objs.size + 1) m) (hk : ∀ b o, (s₂.heap.push ob).get? b = some o → h₁.get? b = some o) :
    Inv (cxO X N' scope (cellsFrom (s₂.heap.objs.size + 2) scope.names [] ++ cl) (s₂.heap.objs.size + 1) s₂.heap.objs.size fp { s₂ with heap := s₂.heap.push ob } H2) pins (capt sub σ) H2 { s₂ with heap := h₁, toks := tk } := by
  have old : ∀ b o, s₂.heap.get? b = some o → (s₂.heap.push ob).get? b = some o := fun b o e => Heap.get?_push_of_some _ e
  have old2 : ∀ b o, s₂.heap.get? b = some o → h₁.get? b = some o := fun b o e => hk b o (old b o e)
  have sz : (s₂.heap.push ob).objs.size = s₂.heap.objs.size + 1 := Heap.size_push ..
  have lk : ∀ x c, (cellsFrom (s₂.heap.objs.size + 2) scope.names [] ++ cl).lookup x = some c → ((x, c) ∈ cellsFrom (s₂.heap.objs.size + 2) scope.names [] ∧ h₁.IsCell c none ∧ s₂.heap.objs.size + 2 ≤ c) ∨ X.env.cells.lookup x = some c := fun x c e => by
    rcases lookup_app e with e | ⟨_, e⟩
    · exact .inl ⟨PySem.mem_of_lookup e, hcc.empty x c (PySem.mem_of_lookup e)⟩
    · exact .inr (hcl1 x c e)
  have cells : ∀ x c, X.env.cells.lookup x = some c → c < s₂.heap.objs.size := fun x c e => let ⟨v, q⟩ := I.cell x c e; q.lt
  have has : ∀ x, ((relabel scope X.env).names.lookup x = some .cell ∨ (relabel scope X.env).names.lookup x = some .free) → ∃ c, (cellsFrom (s₂.heap.objs.size + 2) scope.names [] ++ cl).lookup x = some c := fun x hx => by
    rcases hx with hx | hx
    · obtain ⟨k', e, z⟩ := relabel_lookup hx
      rcases z with z | ⟨_, z⟩
      · subst z; exact lookup_own (cells_has (PySem.mem_of_lookup e))
      · subst z; exact lookup_more (hcl2 _ (PySem.mem_of_lookup e) rfl)
    · obtain ⟨k', e, z⟩ := relabel_lookup hx
      rcases z with z | ⟨z, _⟩
      · subst z; exact lookup_more (hcl2 _ (PySem.mem_of_lookup e) rfl)
      · cases z
  have frsz : ∀ b ∈ frs X.stack, b < s₂.heap.objs.size := fun b hb => by
    rcases List.mem_cons.mp (I.stkSub b hb) with z | z
    · rw [z]; exact I.lt
    · exact Nat.lt_of_not_le fun q => I.nofs q z
  refine
    { ok :=
      { mod := I.ok.mod, kind := S.kind, glob := I.ok.glob, blt := I.ok.blt
        above := by show (s₂.heap.push ob).objs.size ≤ s₂.heap.objs.size + 1; rw [sz]; exact Nat.le_refl _
        inj := fun x y c h1 h2 => ?inj
        has := has
        cab := fun x c z e => ?cab
        hd := I.ok.hd, frames := I.ok.frames, stk := .inl rfl
        exf := fun b hb => ?exf
        bs := fun b o e => ⟨old b o (I.bk b o e), (I.bs b o e).2⟩
        bsz := by show X.base.objs.size ≤ (s₂.heap.push ob).objs.size; rw [sz]; exact Nat.le_succ_of_le (Nat.le_trans I.ok.bsz I.sz)
        noex := fun b o e hb => ?noex
        exfs := fun b hb => ?exfs
        funs := ?funs
        frf := I.stkFree }
      os := rfl, bare := I.bare, base := Un.kept fun b u e => hk b u e
      loc := ⟨m, hns, ?loc⟩
      cell := fun x c e => ?cell
      free := I.hok.fresh (Nat.le_succ _)
      freeC := fun x c e => ?freeC
      pin := fun p hp => ?pin
      hok := I.hok.kept old2
      len := ?len }
  case exf =>
    rcases List.mem_cons.mp hb with rfl | hb
    · exact ⟨Nat.ne_of_lt (Nat.lt_succ_self _), fun x c e => (lk x c e).elim (fun z => Nat.ne_of_gt (Nat.lt_of_lt_of_le (Nat.lt_succ_of_lt (Nat.lt_succ_self _)) z.2.2)) (fun z => Nat.ne_of_lt (cells x c z))⟩
    · exact ⟨Nat.ne_of_lt (Nat.lt_succ_of_lt (hfp b hb)), fun x c e => (lk x c e).elim (fun z => Nat.ne_of_gt (Nat.lt_of_lt_of_le (hfp b hb) (Nat.le_trans (Nat.le_add_right _ 2) z.2.2))) (fun z => (f2 b hb).2.2.2.2.1 x c z)⟩
  case noex =>
    have hl : b < X.s₀.heap.objs.size := Nat.lt_of_lt_of_le (Heap.lt_size e) I.ok.bsz
    rcases List.mem_cons.mp hb with rfl | hb
    · exact absurd (Nat.lt_of_lt_of_le hl I.sz) (Nat.lt_irrefl _)
    · rcases (f2 b hb).2.2.2.1 with z | z
      · exact I.ok.noex b o e z
      · exact absurd (Nat.lt_of_lt_of_le hl z) (Nat.lt_irrefl _)
  case exfs =>
    intro hs
    rcases List.mem_cons.mp hb with rfl | hb
    · exact absurd (frsz _ hs) (Nat.lt_irrefl _)
    · rcases List.mem_cons.mp (I.stkSub b hs) with z | z
      · exact (f2 b hb).2.1 z
      · exact (f2 b hb).2.2.1 z
  case funs => exact Heap.FunFrames.of_keeps (fun b o e _ => ⟨o, old b o e, rfl⟩) I.stack
  case loc =>
    intro j y v hj hv hvis
    obtain ⟨mX, _, lX⟩ := I.loc
    unfold capt at hv
    rw [List.getElem?_map] at hv
    cases hs : sub[j]? with
    | none => rw [hs] at hv; cases hv
    | some o =>
      rw [hs] at hv
      cases o with
      | none => cases hv
      | some i =>
        obtain ⟨hN, hc, hf⟩ := S.cap j y i hj hs
        have hv' : σ[i]? = some (some v) := by
          have z : (match σ[i]? with | some v => v | none => none) = some v := Option.some.inj hv
          cases q : σ[i]? with
          | none => rw [q] at z; cases z
          | some w => rw [q] at z; rw [show w = some v from z]
        obtain ⟨u, ru, hl⟩ := lX i y v hN hv' (.inr (.inl hc))
        refine ⟨u, ru, ?_⟩
        have kc : (relabel scope X.env).names.lookup y = some .cell := relabel_cell I.ok.kind hc hf
        rcases hl with ⟨z, _⟩ | ⟨_, c, e, ic⟩
        · have z' : X.env.scope.names.lookup y = some .local := z
          rw [hc] at z'; cases z'
        · obtain ⟨c', e'⟩ := hcl2 _ (PySem.mem_of_lookup hf) rfl
          have := hcl1 _ _ e'
          rw [e] at this; cases this
          have e3 : (cellsFrom (s₂.heap.objs.size + 2) scope.names [] ++ cl).lookup y = some c := lookup_past (cells_not S.nd (PySem.mem_of_lookup hf)) e'
          refine .inr ⟨.inl kc, c, e3, ?_⟩
          obtain ⟨oc, h1, h2⟩ := ic
          exact ⟨oc, old2 _ _ h1, h2⟩
  case cell =>
    rcases lk x c e with ⟨_, z, _⟩ | z
    · exact ⟨none, z⟩
    · obtain ⟨v, oc, h1, h2⟩ := I.cell x c z
      exact ⟨v, oc, old2 _ _ h1, h2⟩
  case inj =>
    rcases lk x c h1 with ⟨m1, _, z1⟩ | z1 <;> rcases lk y c h2 with ⟨m2, _, z2⟩ | z2
    · exact name_of_addr hcc.apart m1 m2
    · exact absurd (Nat.lt_of_lt_of_le (cells y c z2) (Nat.le_trans (Nat.le_add_right _ 2) z1)) (Nat.lt_irrefl _)
    · exact absurd (Nat.lt_of_lt_of_le (cells x c z1) (Nat.le_trans (Nat.le_add_right _ 2) z2)) (Nat.lt_irrefl _)
    · exact I.ok.inj x y c z1 z2
  case cab =>
    show (s₂.heap.push ob).objs.size ≤ c
    rw [sz]
    have hz : scope.names.lookup x = some .cell := by simpa using z
    rcases lookup_app e with e | ⟨e, _⟩
    · have := (hcc.empty x c (PySem.mem_of_lookup e)).2; omega
    · obtain ⟨c', e'⟩ := cells_has (n := s₂.heap.objs.size + 2) (PySem.mem_of_lookup hz)
      rw [e'] at e; cases e
  case freeC =>
    rcases lk x c e with ⟨_, _, z⟩ | z
    · exact I.hok.fresh (by omega)
    · exact I.freeC x c z
  case pin =>
    obtain ⟨p1, p2, p3, p4, p5⟩ := I.pin p hp
    refine ⟨old2 _ _ p1, p2, Nat.ne_of_lt (Nat.lt_succ_of_lt (Heap.lt_size p1)), fun hs => ?_, p5⟩
    rcases List.mem_cons.mp (I.stkSub _ hs) with z | z
    · exact p3 z
    · exact p4 z
  case len =>
    show (capt sub σ).length = N'.length
    unfold capt
    rw [List.length_map]; exact S.len
theorem comp_finC {C D : Addr} {s₀ : Shared} {s' : Shared} {σ' : L2.St} {H' : Hp} {ys : List V} {us : List Value} {k : Nat} {oC : Obj} (I : Inv X pins σ H2 s₂)
    (hs₀ : ∀ b o, s₂.heap.get? b = some o → s₀.heap.get? b = some o) (hos : s₀.os = s₂.os) (hD : s₂.heap.objs.size ≤ D) (hC : s₂.heap.objs.size ≤ C) (hDC : D ≠ C) (f2 : ∀ b ∈ fp, FpOk X pins H2 b)
    (I' : Inv (cxO X N' scope cl C D fp s₀ H2) pins σ' H' s') (hn : H' D = none) (hy : s'.heap.get? D = some { cls := .type "list", data := .seq us.toArray k }) (rv : Vals ys us) (hz : ys.length ≤ sizeLine)
    (ho : s'.heap.get? C = some oC) (hd : ∀ v, oC.data ≠ .cell v) : Inv X (pins ++ [(C, oC)]) σ (upd H' D (.lst ys)) s' ∧ FpOk X pins (upd H' D (.lst ys)) C := by
  have neD : ∀ b o, s₂.heap.get? b = some o → b ≠ D := fun b o e => Nat.ne_of_lt (Nat.lt_of_lt_of_le (Heap.lt_size e) hD)
  have nm : ∀ b o, s₂.heap.get? b = some o → b ∉ fp → b ∉ D :: fp := fun b o e h z => (List.mem_cons.mp z).elim (neD b o e) h
  have U := I'.base
  have HC : upd H' D (.lst ys) C = none := by rw [upd_ne (Ne.symm hDC)]; exact I'.free
  have fpc : FpOk X pins (upd H' D (.lst ys)) C := I.fpOk hC HC
  have un : Un (frs X.stack) fp H2 (upd H' D (.lst ys)) s₂.heap s'.heap :=
    { keep := fun b o e n h1 h2 => U.keep b o (hs₀ b o e) n h1 (nm b o e h2)
      slot := fun b o e n h1 h2 => U.slot b o (hs₀ b o e) n h1 (nm b o e h2)
      free := fun b o e n h2 => by rw [upd_ne (neD b o e)]; exact U.free b o (hs₀ b o e) n (nm b o e h2)
      there := fun b o e h2 => U.there b o (hs₀ b o e) (nm b o e h2)
      tups := fun b xs e => by have z := U.tups b xs e; rw [upd_ne (ne_of_none z hn)]; exact z
      frzs := fun b o u e => by have z := U.frzs b o u e; rw [upd_ne (ne_of_none z hn)]; exact z
      tbls := fun b ps e => by obtain ⟨more, z⟩ := U.tbls b ps e; exact ⟨more, by rw [upd_ne (ne_of_none z hn)]; exact z⟩ }
  have hok : HOk X.prog X.w (upd H' D (.lst ys)) s'.heap := HOk.track I'.hok hn ⟨hz, us, k, rv, hy⟩
  have IX : Inv X pins σ (upd H' D (.lst ys)) s' := I.call' (I'.os.trans hos) un hok I'.bare fun b hb => ⟨(f2 b hb).2.2.2.1, (f2 b hb).2.1, (f2 b hb).2.2.2.2.1, (f2 b hb).2.2.2.2.2⟩
  refine ⟨IX.pins_of fun p hp => ?_, fpc⟩
  rcases List.mem_append.mp hp with hp | hp
  · exact IX.pin p (List.mem_append_right _ hp)
  · rw [List.mem_singleton.mp hp]
    exact ⟨ho, HC, fpc.2.1, fpc.2.2.1, hd⟩
theorem comp_runC {C D : Addr} {s₀ : Shared} {tg : Expr} {pos : Pos} {elt iter : Expr} {ifs : List Expr} {g : TG} {tt : TT} {te : TE} {Q : VK} {RR : Value → Addr → Result → Shared → Prop} {W : Nat → Nat → List V → L2.St → Hp → Prop}
    (I : Inv X pins σ H2 s₂) (hcalm : X.calm = true) (T : Turn X.prog X.w X.K tg J fp it tn) (f2 : ∀ b ∈ fp, FpOk X pins H2 b) (hfp : ∀ b ∈ fp, b < s₂.heap.objs.size)
    (hs₀ : ∀ b o, s₂.heap.get? b = some o → s₀.heap.get? b = some o) (hos : s₀.os = s₂.os) (hD : s₂.heap.objs.size ≤ D) (hC : s₂.heap.objs.size ≤ C) (hDC : D ≠ C)
    (hcl1 : ∀ x c, cl.lookup x = some c → X.env.cells.lookup x = some c ∨ (s₂.heap.objs.size ≤ c ∧ D ≠ c))
    (hg : PG (cxO X N' scope cl C D fp s₀ H2) tg g) (ht : PIfs (cxO X N' scope cl C D fp s₀ H2) ifs tt) (he : PE (cxO X N' scope cl C D fp s₀ H2) elt te)
    (turn : ∀ i m ys σ' H', W i m ys σ' H' →
      (J.stop i H' ∧ ∀ l, H' l = none → Q (.ref l) (upd H' l (.lst ys))) ∨
      (J.go i H' ∧ ∃ Nn : List V → L2.St → Hp → Prop, (∀ zs σ2 H2, Nn zs σ2 H2 → ∃ m', m' < m ∧ W (i + 1) m' zs σ2 H2) ∧
        ∀ x H2, J.yld i H' x H2 → g x σ' H2 fun σ2 H3 => tt σ2 H3 fun b H4 => if b = true then te σ2 H4 fun y H5 => ys.length < sizeLine ∧ Nn (ys ++ [y]) σ2 H5 else Nn ys σ2 H4))
    (hRR : ∀ (D C : Addr) (oC : Obj) (m : Str → Option Value) (s' : Shared) (Hf : Hp), Inv X (pins ++ [(C, oC)]) σ Hf s' → s'.heap.Ns C m → FpOk X pins Hf C → Q (.ref D) Hf → RR (.ref D) C (.ok .next) s')
    (n : Nat) (s : Shared) (h : ∃ i ys us k σ' H', Inv (cxO X N' scope cl C D fp s₀ H2) pins σ' H' s ∧ tn i s.heap ∧ (∀ b ∈ fp, H' b = none) ∧ H' D = none ∧
      s.heap.get? D = some { cls := .type "list", data := .seq (us : List Value).toArray k } ∧ Vals ys us ∧ ys.length ≤ sizeLine ∧ W i n ys σ' H') :
    codeAny (model X.prog X.w) X.A (.compLoop (.ListComp elt [⟨tg, iter, ifs, 0⟩] scope pos) 0 (.ref it) (.ref D) (compEnvC scope cl C X.env)) (RR (.ref D) C) s := by
  have frsz : ∀ b ∈ frs X.stack, b < s₂.heap.objs.size := fun b hb => by
    rcases List.mem_cons.mp (I.stkSub b hb) with z | z
    · rw [z]; exact I.lt
    · exact Nat.lt_of_not_le fun q => I.nofs q z
  have cells : ∀ x c, cl.lookup x = some c → D ≠ c := fun x c e => by
    rcases hcl1 x c e with z | z
    · obtain ⟨v, q⟩ := I.cell x c z
      exact Nat.ne_of_gt (Nat.lt_of_lt_of_le q.lt hD)
    · exact z.2
  have pinsz : ∀ p ∈ X.pn ++ pins, p.1 < s₂.heap.objs.size := fun p hp => Heap.lt_size (I.pin p hp).1
  refine comp_loop (fun n s => ∃ i ys us k σ' H', Inv (cxO X N' scope cl C D fp s₀ H2) pins σ' H' s ∧ tn i s.heap ∧ (∀ b ∈ fp, H' b = none) ∧ H' D = none ∧
      s.heap.get? D = some { cls := .type "list", data := .seq (us : List Value).toArray k } ∧ Vals ys us ∧ ys.length ≤ sizeLine ∧ W i n ys σ' H') ?_ n h
  rintro n s ⟨i, ys, us, k, σ', H', I', st', fr, hn, hy, rv, hz, w'⟩
  have pD : Inv (cxO X N' scope cl C D fp s₀ H2) (pins ++ [(D, { cls := .type "list", data := .seq us.toArray k })]) σ' H' s := I'.pins_of fun p hp => by
    rcases List.mem_append.mp hp with hp | hp
    · exact I'.pin p (List.mem_append_right _ hp)
    · rw [List.mem_singleton.mp hp]
      exact ⟨hy, hn, hDC, fun z => absurd (Nat.lt_of_lt_of_le (frsz _ z) hD) (Nat.lt_irrefl _), fun v z => by cases z⟩
  have fpok : ∀ {H'' : Hp}, (∀ b ∈ fp, H'' b = none) → ∀ b ∈ fp, FpOk (cxO X N' scope cl C D fp s₀ H2) (pins ++ [(D, { cls := .type "list", data := .seq us.toArray k })]) H'' b := fun hz b hb => by
    refine ⟨hz b hb, Nat.ne_of_lt (Nat.lt_of_lt_of_le (hfp b hb) hC), fun z => ?_, .inl (List.mem_cons_of_mem _ hb), fun x c e => (hcl1 x c e).elim (fun z => (f2 b hb).2.2.2.2.1 x c z) (fun z q => absurd (Nat.lt_of_lt_of_le (q ▸ hfp b hb) z.1) (Nat.lt_irrefl _)), fun p hp => ?_⟩
    · rcases List.mem_cons.mp (I.stkSub b z) with z | z
      · exact (f2 b hb).2.1 z
      · exact (f2 b hb).2.2.1 z
    · rcases List.mem_append.mp hp with hp | hp
      · exact (f2 b hb).2.2.2.2.2 p (List.mem_append_left _ hp)
      · rcases List.mem_append.mp hp with hp | hp
        · exact (f2 b hb).2.2.2.2.2 p (List.mem_append_right _ hp)
        · rw [List.mem_singleton.mp hp]
          exact Nat.ne_of_gt (Nat.lt_of_lt_of_le (hfp b hb) hD)
  rcases turn i n ys σ' H' w' with ⟨stop, q⟩ | ⟨go, Nn, hN, step⟩
  · refine thn (T.done (cxO X N' scope cl C D fp s₀ H2) rfl rfl rfl hcalm i _ s σ' H' (fun _ _ => False) pD (fpok fr) st' stop) fun r s1 ⟨hr, I1⟩ => ?_
    subst hr
    have hy1 := (I1.pin (D, { cls := .type "list", data := .seq us.toArray k }) (by simp)).1
    obtain ⟨m, hm, _⟩ := I1.loc
    obtain ⟨oC, es, ep, hoC, hdC, _⟩ := id hm
    obtain ⟨IX, fpc⟩ := comp_finC I hs₀ hos hD hC hDC f2 I1.unpinned hn hy1 rv hz hoC (by intro v z; rw [hdC] at z; cases z)
    exact hRR D C oC m s1 _ IX hm fpc (q D hn)
  · refine thn (T.item (cxO X N' scope cl C D fp s₀ H2) rfl rfl rfl hcalm i _ s σ' H' (fun _ _ => False) pD (fpok fr) st' go) fun r s1 ⟨u, hr, h4⟩ => ?_
    subst hr
    refine thn h4 fun _ s2 ⟨x5, H5, I5, r5, y5, st5, fr5⟩ => ?_
    have I5' := I5.pinned (fpok fr5) (T.obj _ _ st5)
    refine thn (hg _ s2 σ' H5 x5 u _ I5' r5 (step x5 H5 y5)) fun _ s3 ⟨σ6, H6, I6, q6⟩ => ?_
    refine thn (ht _ s3 σ6 H6 _ I6 q6) fun ok s4 ⟨H7, I7, q7⟩ => ?_
    have stay : ∀ {σ7 : L2.St} {H7 : Hp} {s7 : Shared}, Inv (cxO X N' scope cl C D fp s₀ H2) (pins ++ [(D, { cls := .type "list", data := .seq us.toArray k })] ++ pinsAt fp s2.heap) σ7 H7 s7 →
        (∀ b ∈ fp, ∀ o, s2.heap.get? b = some o → s7.heap.get? b = some o) ∧ (∀ b ∈ fp, H7 b = none) ∧ H7 D = none ∧ s7.heap.get? D = some { cls := .type "list", data := .seq us.toArray k } := fun {σ7 H7 s7} I7 => by
      have d := I7.pin (D, { cls := .type "list", data := .seq us.toArray k }) (by simp)
      refine ⟨fun b hb o e => (I7.pin (b, o) (List.mem_append_right _ (List.mem_append_right _ (mem_pinsAt hb e)))).1, fun b hb => ?_, d.2.1, d.1⟩
      obtain ⟨o, e, _⟩ := T.obj _ _ st5 b hb
      exact (I7.pin (b, o) (List.mem_append_right _ (List.mem_append_right _ (mem_pinsAt hb e)))).2.1
    cases ok with
    | false =>
      rw [if_neg (by decide)] at q7 ⊢
      obtain ⟨k1, k2, k3, k4⟩ := stay I7
      obtain ⟨m', hm, w7⟩ := hN ys σ6 H7 q7
      exact ⟨m', hm, i + 1, ys, us, k, σ6, H7, I7.unpinned.unpinned, T.keep _ _ _ st5 k1, k2, k3, k4, rv, hz, w7⟩
    | true =>
      rw [if_pos rfl] at q7 ⊢
      refine thn (he _ s4 σ6 H7 _ I7 q7) fun v s5 ⟨y, H8, I8, r8, hl8, n8⟩ => ?_
      obtain ⟨k1, k2, k3, k4⟩ := stay I8
      refine wpAny_list_append_plain (l := D) ⟨k, k4⟩ (fun h' pl sb => ?_) (by rw [List.size_toArray, ← rv.length]; exact hz)
      obtain ⟨k', e'⟩ := pl
      obtain ⟨m', hm, w8⟩ := hN _ σ6 H8 n8
      refine ⟨m', hm, i + 1, ys ++ [y], us ++ [v], k', σ6, H8, ?_, T.keep _ _ _ (T.keep _ _ _ st5 k1) fun b hb o e => sb.extBut b o (Nat.ne_of_lt (Nat.lt_of_lt_of_le (hfp b hb) hD)) e, k2, k3, ?_, rv.append (.cons r8 .nil), ?_, w8⟩
      · exact (I8.unpinned.unpinned).turned (it := D) (t' := s5.toks) (h' := h') (fun b o hb e => sb.extBut b o hb e) k3 hDC (.inl (by simp)) (fun x c e => (cells x c e).symm) (fun p hp => Nat.ne_of_lt (Nat.lt_of_lt_of_le (pinsz p hp) hD))
      · rw [e']; simp
      · rw [List.length_append]; exact hl8
theorem env_cells {M : Model} {A : Around} {E : Value → Shared → Prop} {s : Shared} {scope : Scope} {globals : Addr} {closure : List (Str × Addr)} {qual : Str} {around : Env} {Q : Env → Shared → Prop} (hk : scope.kind = .function)
    (hQ : ∀ h', h'.Ns s.heap.objs.size (fun _ => none) → (∀ b o, s.heap.get? b = some o → h'.get? b = some o) → CellsOk h' (s.heap.objs.size + 1) (cellsFrom (s.heap.objs.size + 1) scope.names []) →
      Q (newEnv scope s.heap.objs.size globals (cellsFrom (s.heap.objs.size + 1) scope.names [] ++ closure) qual none .none (some around) builtinsNs) { s with heap := h' }) :
    wpAny M A (newFunctionEnv scope globals closure [] qual none .none (some around)) Q E s := by
  simp only [newFunctionEnv, Option.isSome_some, if_true]
  refine wpAny_bind (wpAny_alloc (wpAny_bind (wpAny_layCells _ (fun nm kd cs => by cases h : kd == NameKind.cell <;> simp [h]) scope.names closure _ _ ?_)))
  have own := cellsFrom_ok scope.names (s.heap.push ⟨.type "dict", none, .dict #[], #[]⟩) (s.heap.objs.size + 1) [] ⟨fun _ _ z => (nomatch z), .nil⟩ (Nat.le_of_eq (Heap.size_push ..).symm)
  have sz : (s.heap.push ⟨.type "dict", none, .dict #[], #[]⟩).objs.size = s.heap.objs.size + 1 := Heap.size_push ..
  rw [sz] at own
  have ea := cells_app scope.names (s.heap.objs.size + 1) [] closure
  rw [List.nil_append] at ea
  show wpAny _ _ _ _ _ { s with heap := pushCells (s.heap.push ⟨.type "dict", none, .dict #[], #[]⟩) scope.names }
  dsimp only
  rw [sz, ea]
  exact wpAny_bind (wpAny_pure (wpAny_pure (hQ _ ((Heap.Ns.new s.heap (.type "dict")).keeps (pushCells_keeps _ _)) (fun b o e => pushCells_keeps _ _ b o (Heap.get?_push_of_some _ e)) own)))
theorem comp_blockC {tg : Expr} {pos : Pos} {elt iter : Expr} {ifs : List Expr} {g : TG} {tt : TT} {te : TE} {E : Value → Shared → Prop} {Q : VK} {RR : Value → Addr → Result → Shared → Prop}
    (I : Inv X pins σ H2 s₂) (hcalm : X.calm = true) (T : Turn X.prog X.w X.K tg J fp it tn) (st : tn 0 s₂.heap) (f2 : ∀ b ∈ fp, FpOk X pins H2 b)
    (S : CScC X scope N' sub) (hcl1 : ∀ x c, cl.lookup x = some c → X.env.cells.lookup x = some c) (hcl2 : ∀ y ∈ scope.names, y.2 = .free → ∃ c, cl.lookup y.1 = some c)
    (hg : ∀ cl C D fp s H, PG (cxO X N' scope cl C D fp s H) tg g) (ht : ∀ cl C D fp s H, PIfs (cxO X N' scope cl C D fp s H) ifs tt) (he : ∀ cl C D fp s H, PE (cxO X N' scope cl C D fp s H) elt te)
    (hW : CompW J (capt sub σ) H2 g tt te Q)
    (hRR : ∀ (D C : Addr) (oC : Obj) (m : Str → Option Value) (s' : Shared) (Hf : Hp), Inv X (pins ++ [(C, oC)]) σ Hf s' → s'.heap.Ns C m → FpOk X pins Hf C → Q (.ref D) Hf → RR (.ref D) C (.ok .next) s') :
    wpAny (model X.prog X.w) X.A (newList []) (fun acc s₃ => wpAny (model X.prog X.w) X.A (newFunctionEnv scope X.env.globals cl [] X.env.qual none .none (some X.env)) (fun cenv s₄ =>
      codeAny (model X.prog X.w) X.A (.compStart (.ListComp elt [⟨tg, iter, ifs, 0⟩] scope pos) 0 (.ref it) acc { cenv with scope := relabel scope X.env }) (RR acc cenv.locals) s₄) E s₃) E s₂ := by
  obtain ⟨W, ⟨m0, w0⟩, turn⟩ := hW
  refine wpAny_newObj_type (env_cells S.kind fun h₁ hns₁ hk0 hcc => ?_)
  dsimp only at hns₁ hk0 hcc ⊢
  have hC : (s₂.heap.push { cls := .type "list", dict := none, data := .seq ([] : List Value).toArray }).objs.size = s₂.heap.objs.size + 1 := Heap.size_push ..
  rw [hC] at hns₁ hcc ⊢
  have hk : ∀ b o, (s₂.heap.push { cls := .type "list", dict := none, data := .seq ([] : List Value).toArray }).get? b = some o → h₁.get? b = some o := hk0
  have hfp : ∀ b ∈ fp, b < s₂.heap.objs.size := fun b hb => by
    obtain ⟨o, e, _⟩ := T.obj _ _ st b hb
    exact Heap.lt_size e
  have I0 := comp_startC (tk := s₂.toks) I S hcl1 hcl2 hcc f2 hfp hns₁ hk
  have hD0 : h₁.get? s₂.heap.objs.size = some { cls := .type "list", data := .seq ([] : List Value).toArray 0 } := hk _ _ (Heap.get?_push_size _ rfl)
  have hcl3 : ∀ x c, (cellsFrom (s₂.heap.objs.size + 2) scope.names [] ++ cl).lookup x = some c → X.env.cells.lookup x = some c ∨ (s₂.heap.objs.size ≤ c ∧ s₂.heap.objs.size ≠ c) := fun x c e => by
    rcases lookup_app e with e | ⟨_, e⟩
    · have z := (hcc.empty x c (PySem.mem_of_lookup e)).2
      exact .inr ⟨Nat.le_trans (Nat.le_add_right _ 2) z, Nat.ne_of_lt (Nat.lt_of_lt_of_le (Nat.lt_succ_of_lt (Nat.lt_succ_self _)) z)⟩
    · exact .inl (hcl1 x c e)
  have loop : codeAny (model X.prog X.w) X.A (.compLoop (.ListComp elt [⟨tg, iter, ifs, 0⟩] scope pos) 0 (.ref it) (.ref s₂.heap.objs.size) (compEnvC scope (cellsFrom (s₂.heap.objs.size + 2) scope.names [] ++ cl) (s₂.heap.objs.size + 1) X.env)) (RR (.ref s₂.heap.objs.size) (s₂.heap.objs.size + 1)) { s₂ with heap := h₁, toks := s₂.toks } :=
    comp_runC (s₀ := { s₂ with heap := s₂.heap.push { cls := .type "list", dict := none, data := .seq ([] : List Value).toArray } }) (C := s₂.heap.objs.size + 1) (D := s₂.heap.objs.size) I hcalm T f2 hfp (fun b o e => Heap.get?_push_of_some _ e) rfl (Nat.le_refl _) (Nat.le_succ _) (Nat.ne_of_lt (Nat.lt_succ_self _)) hcl3 (hg _ _ _ _ _ _) (ht _ _ _ _ _ _) (he _ _ _ _ _ _) turn hRR m0 _
      ⟨0, [], [], 0, capt sub σ, H2, I0, T.keep _ _ _ st fun b hb o e => hk b o (Heap.get?_push_of_some _ e), fun b hb => (f2 b hb).1, I.hok.fresh (Nat.le_refl _), hD0, .nil, Nat.zero_le _, w0⟩
  exact codeAny_compStart_list loop (T.self _ _ _ _ _ (T.keep _ _ _ st fun b hb o e => hk b o (Heap.get?_push_of_some _ e)) loop)
end
section
variable {X : Cx} {scope : Scope} {N' : List Str} {sub : List (Option Nat)} {tg : Expr} {pos : Pos} {elt iter : Expr} {ifs : List Expr} {wi : TI} {g : TG} {tt : TT} {te : TE}
theorem CScC.clos {pins : List (Addr × Obj)} {σ : L2.St} {H : Hp} {s : Shared} (S : CScC X scope N' sub) (I : Inv X pins σ H s) : ∃ cl, closureFor scope X.env = pure cl ∧ (∀ x c, cl.lookup x = some c → X.env.cells.lookup x = some c) ∧ ∀ y ∈ scope.names, y.2 = .free → ∃ c, cl.lookup y.1 = some c :=
  closure_ok fun y hy hf => I.ok.has y.1 (.inl (S.free y hy hf))
theorem pe_compC (S : CScC X scope N' sub) (hcalm : X.calm = true) (hi : PI X tg iter wi)
    (hg : ∀ cl C D fp s H, PG (cxO X N' scope cl C D fp s H) tg g) (ht : ∀ cl C D fp s H, PIfs (cxO X N' scope cl C D fp s H) ifs tt) (he : ∀ cl C D fp s H, PE (cxO X N' scope cl C D fp s H) elt te)
    (hs : ∀ x, foldedSetIterable iter X.env x = pure x := by intro _; rfl) : PE X (.ListComp elt [⟨tg, iter, ifs, 0⟩] scope pos) (tComp wi sub g tt te) := by
  intro pins s σ H Q I h
  obtain ⟨cl, hclos, hcl1, hcl2⟩ := S.clos I
  rw [eval_ListComp]
  refine wpAny_comprehension_free (use := none) rfl hs hclos S.kind S.names (thn (hi pins s σ H _ I h) fun v s1 h1 => thn h1 fun itv s2 h2 => ?_)
  obtain ⟨it, fp, tn, J, H2, e, I2, T, st2, f2, hW⟩ := h2
  subst e
  refine comp_blockC (RR := fun acc C => compPost (model X.prog X.w) X.A X.xe none (EP X pins σ Q) acc C) I2 hcalm T st2 f2 S hcl1 hcl2 hg ht he hW ?_
  intro D C oC m s' Hf IX hm fpc q
  refine ⟨m, hm, fun h' sb => ⟨.ref D, Hf, ?_, rfl, q⟩⟩
  exact (IX.unpinned).turned (it := C) (t' := s'.toks) (h' := h') (fun b o hb e => sb.extBut b o hb e) fpc.1 fpc.2.1 fpc.2.2.2.1 fpc.2.2.2.2.1 fpc.2.2.2.2.2
end
end L3

namespace L3
open PySem PySem.Spec PyProof.Rows L2
theorem CScC.of {X : Cx} {scope : Scope} {N' : List Str} {sub : List (Option Nat)} (sc : Scope) (NN : List Str) (e : X.env.scope = sc) (en : X.N = NN)
    (h : ((scope.names.all fun y => (y.2 != .free || sc.names.lookup y.1 == some .cell) && (y.2 != .local || scope.names.lookup y.1 == some .local)) && (sub.length == N'.length) &&
      ((N'.zip sub).all fun p => match p.2 with | none => true | some i => NN[i]? == some p.1 && sc.names.lookup p.1 == some .cell && scope.names.lookup p.1 == some .free)) = true)
    (nd : (scope.names.map (·.1)).Nodup) (hk : scope.kind = .function) : CScC X scope N' sub := by
  rw [Bool.and_eq_true, Bool.and_eq_true] at h
  obtain ⟨⟨h1, h2⟩, h3⟩ := h
  have k1 := fun y hy => List.all_eq_true.mp h1 y hy
  refine ⟨fun y hy hf => ?_, nd, hk, fun y hy hl => ?_, by simpa using h2, fun j y i hj hs => ?_⟩
  · have := k1 y hy
    simp only [hf, Bool.and_eq_true] at this
    have z := this.1
    show X.env.scope.names.lookup y.1 = _
    rw [e]; simpa using z
  · have := k1 y hy
    simp only [hl, Bool.and_eq_true] at this
    simpa using this.2
  · have hm : (y, some i) ∈ N'.zip sub := by
      have : (N'.zip sub)[j]? = some (y, some i) := by
        rw [List.getElem?_zip_eq_some]; exact ⟨hj, hs⟩
      exact List.mem_of_getElem? this
    have := List.all_eq_true.mp h3 _ hm
    simp only [Bool.and_eq_true, beq_iff_eq] at this
    rw [e, en]
    exact ⟨this.1.1, this.1.2, this.2⟩
theorem relabel_own {scope : Scope} {env : Env} {y : Str} (h : scope.names.lookup y = some .cell) : (relabel scope env).names.lookup y = some .cell := by
  have key : ∀ l : List (Str × NameKind), l.lookup y = some .cell → (l.map fun (n, k) => if (k == NameKind.free && env.scope.kind == .function && env.kindOf n == some .cell) then (n, NameKind.cell) else (n, k)).lookup y = some .cell := by
    intro l
    induction l with
    | nil => intro h; cases h
    | cons p r ih =>
      obtain ⟨n, k0⟩ := p
      intro h
      rw [List.map_cons]
      rw [List.lookup_cons] at h
      dsimp only
      cases hx : y == n with
      | true =>
        rw [hx] at h
        cases h
        rw [if_neg (by simp), List.lookup_cons, hx]
      | false =>
        rw [hx] at h
        by_cases hc2 : (k0 == NameKind.free && env.scope.kind == .function && env.kindOf n == some .cell) = true
        · rw [if_pos hc2, List.lookup_cons, hx]; exact ih h
        · rw [if_neg hc2, List.lookup_cons, hx]; exact ih h
  exact key scope.names h
theorem CSc.nestO {X0 : Cx} {scope scope2 : Scope} {N' N2 : List Str} {sub sub2 : List (Option Nat)} {cl : List (Str × Addr)} {C D : Addr} {fp : List Addr} {s : Shared} {H : Hp} (S : CScC X0 scope N' sub) (hk0 : X0.env.scope.kind = .function)
    (h : ((scope2.names.all fun y => (y.2 != .free || (scope.names.lookup y.1 == some .free || scope.names.lookup y.1 == some .cell)) && (y.2 != .cell) && (y.2 != .local || scope2.names.lookup y.1 == some .local)) && (sub2.length == N2.length) &&
      ((N2.zip sub2).all fun p => match p.2 with | none => true | some i => N'[i]? == some p.1 && (scope.names.lookup p.1 == some .free || scope.names.lookup p.1 == some .cell) && scope2.names.lookup p.1 == some .free)) = true)
    (hk : scope2.kind = .function) : CSc (cxO X0 N' scope cl C D fp s H) scope2 N2 sub2 := by
  rw [Bool.and_eq_true, Bool.and_eq_true] at h
  obtain ⟨⟨h1, h2⟩, h3⟩ := h
  have k1 := fun y hy => List.all_eq_true.mp h1 y hy
  have cellOf : ∀ y : Str, (scope.names.lookup y = some .free ∨ scope.names.lookup y = some .cell) → (relabel scope X0.env).names.lookup y = some .cell := fun y hy => by
    rcases hy with hy | hy
    · exact relabel_cell hk0 (S.free (y, .free) (PySem.mem_of_lookup hy) rfl) hy
    · exact relabel_own hy
  refine ⟨fun y hy hf => ?_, fun y hy hc => ?_, hk, fun y hy hl => ?_, by simpa using h2, fun j y i hj hs => ?_⟩
  · have := k1 y hy
    simp only [hf, Bool.and_eq_true] at this
    have z := this.1.1
    exact cellOf y.1 (by simpa using z)
  · have := k1 y hy
    simp only [hc, Bool.and_eq_true] at this
    simp at this
  · have := k1 y hy
    simp only [hl, Bool.and_eq_true] at this
    simpa using this.2
  · have hm : (y, some i) ∈ N2.zip sub2 := by
      have : (N2.zip sub2)[j]? = some (y, some i) := by
        rw [List.getElem?_zip_eq_some]; exact ⟨hj, hs⟩
      exact List.mem_of_getElem? this
    have := List.all_eq_true.mp h3 _ hm
    simp only [Bool.and_eq_true, Bool.or_eq_true, beq_iff_eq] at this
    exact ⟨this.1.1, cellOf y this.1.2, this.2⟩
end L3

namespace L3
open PySem PySem.Spec PyProof.Rows L2
theorem AllOk.at {ds : List Deed} (h : AllOk ds) {i : Nat} (hi : i < ds.length) : (ds.getD i look).Ok := h _ (List.mem_of_getElem? (getDd hi))
structure MixOk (m : List Nat) : Prop where
  nd : m.Nodup
  lt : ∀ j ∈ m, j < m.length
  has : ∀ j, j < m.length → j ∈ m
theorem MixOk.of {m : List Nat} {n : Nat} (h : m.Perm (List.range n)) : MixOk m ∧ m.length = n := by
  have hl : m.length = n := by rw [h.length_eq, List.length_range]
  refine ⟨⟨(h.nodup_iff).mpr List.nodup_range, fun j hj => ?_, fun j hj => ?_⟩, hl⟩
  · rw [hl]; exact List.mem_range.mp (h.mem_iff.mp hj)
  · exact h.mem_iff.mpr (List.mem_range.mpr (by omega))
theorem MixOk.at {m : List Nat} (h : MixOk m) {j : Nat} (hj : j < m.length) : m.idxOf j < m.length ∧ m.getD (m.idxOf j) 0 = j := by
  have hl := List.idxOf_lt_length_of_mem (h.has j hj)
  refine ⟨hl, ?_⟩
  rw [List.getD_eq_getElem?_getD, List.getElem?_eq_getElem hl]
  exact List.getElem_idxOf hl
end L3

namespace L3
open PySem PySem.Spec PyProof.Rows L2
section
variable {X : Cx} {K : PySem.W.Frag}
end
end L3
namespace L3
open PySem PySem.Spec PyProof.Rows L2
end L3

namespace L3
open PySem PySem.Spec PyProof.Rows L2
structure WkD (prog : Program) (w : World) (A : Around) (T : String) (I : Addr) (n : Nat) (Fr : Addr → Prop) (J : List Value → Shared → Prop) (Fn : List Value → Shared → Prop) : Prop where
  ty : ∀ acc s, J acc s → s.TypeIs (.ref I) T
  self : ∀ acc s (Q : Value → Shared → Prop) (E : Value → Shared → Prop), J acc s → Q (.ref I) s → wpAny (model prog w) A (pyIter (.ref I)) Q E s
  stay : ∀ acc s (S : Addr) (ob : Obj) (h' : Heap), J acc s → Fr S → s.heap.get? S = some ob → (ob.cls = .type "list" ∧ ∀ v, ob.data ≠ .cell v) → (∀ b o, b ≠ S → s.heap.get? b = some o → h'.get? b = some o) → h'.objs.size = s.heap.objs.size → J acc { s with heap := h' }
  next : ∀ acc s (S : Addr) (ob : Obj) (Q : Option Value → Shared → Prop) (E : Value → Shared → Prop), J acc s → Fr S → s.heap.get? S = some ob → (ob.cls = .type "list" ∧ ∀ v, ob.data ≠ .cell v) →
    (∀ v s', acc.length < n → J (acc ++ [v]) s' → s'.heap.get? S = some ob → Q (some v) s') → (∀ s', Fn acc s' → s'.heap.get? S = some ob → Q none s') → wpAny (model prog w) A (pyNext (.ref I)) Q E s
  push : ∀ acc s (o : Obj), J acc s → J acc { s with heap := s.heap.push o }
section
variable {prog : Program} {w : World} {A : Around} {R : Result → Shared → Prop} {T : String} {I : Addr} {n : Nat} {Fr : Addr → Prop} {J Fn : List Value → Shared → Prop}
end
section
variable {prog : Program} {w : World} {A : Around} {E : Value → Shared → Prop} {s : Shared} {T : String} {I : Addr} {n : Nat} {Fr : Addr → Prop} {J Fn : List Value → Shared → Prop}
end
section
variable {X : Cx} {pins : List (Addr × Obj)} {σ : L2.St} {fp : List Addr} {it : Addr} {tn : Nat → Heap → Prop} {Jt : It} {nm : Str} {pt : Pos} {cls : String} {H0 : Hp} {S0 : Addr} {n : Nat}
end
section
variable {X : Cx} {K : PySem.W.Frag} {a b : Expr} {ta : TA} {p p2 pos pos2 : Pos}
theorem SqC.grow {c : Bool} {H H' : Hp} {a : Addr} {xs : List V} (g : Grow [] H H') (h : SqC c K H a xs) : SqC c K H' a xs := by
  cases c
  · exact g.sqL h
  · exact g.sqT h
end
end L3

namespace L3
open PySem PySem.Spec PyProof.Rows L2 HT
section
variable {prog : Program} {w : World} {A : Around} {E : Value → Shared → Prop} {s : Shared}
theorem add_none (l b : Addr) (us ws : Array Value) (n m : Nat) (d1 d2 : Option Addr) (e1 e2 : Array (Option Value)) (h0 : us.isEmpty = true) :
    Meets (Builtin.«tuple.__add__» ⟨[.ref l, .ref b], []⟩) (fun _ R s => s.heap.get? l = some ⟨.type "tuple", d1, .seq us n, e1⟩ ∧ s.heap.get? b = some ⟨.type "tuple", d2, .seq ws m, e2⟩ ∧ R (.ok (.ret (.ref b))) s) :=
  .of_wp fun P w A R s h => by
    obtain ⟨hh, gg, dd, tk, os⟩ := s
    obtain ⟨eL, eT, q⟩ := h
    have k1 := PySem.AutoSeq1.sub_tuple_tuple
    wp_walk using PySem.AutoSeq1.wpAny_loadPart' eL, PySem.AutoSeq1.wpAny_loadPart' eT
    exact ⟨_, rfl, q⟩
theorem cat_none {t b : Addr} {vs ws : List Value} {Q : Value → Shared → Prop} (ht : IsTup s.heap t vs.toArray) (hb : IsTup s.heap b ws.toArray) (hv : vs = []) (h1 : Q (.ref b) s) : wpAny (model prog w) A (binaryOp .Add (.ref t) (.ref b)) Q E s := by
  obtain ⟨⟨c1, d1, x1, l1⟩, ho, hc, n, hd⟩ := id ht
  obtain ⟨⟨c2, d2, x2, l2⟩, ho2, hc2, m, hd2⟩ := id hb
  cases hc
  cases hd
  cases hc2
  cases hd2
  exact concat_meets ⟨_, ho, rfl⟩ ⟨_, ho2, rfl⟩ noFill_tuple_add seq_tuple_add PySem.F.slot_tuple_add PySem.F.entry_tuple_add (PySem.F.args_tuple_add_2 _ _) (add_none t b vs.toArray ws.toArray n m d1 d2 l1 l2 (by simp [hv])) ⟨ho, ho2, h1⟩
end
section
variable {X : Cx} {K : PySem.W.Frag}
def rCatG (K : PySem.W.Frag) : R2 := fun x y H Q => ∃ a b xs ys, x = .ref a ∧ y = .ref b ∧ SqT K H a xs ∧ SqT K H b ys ∧ xs.length + ys.length ≤ sizeLine ∧ ∀ p H', Grow [] H H' → SqT K H' p (xs ++ ys) → Q (.ref p) H'
theorem op_catG (hK : X.K = K) : OpR X (binaryOp .Add) (rCatG K) := by
  subst hK
  intro pins s σ H x y v u Q I rx ry h
  obtain ⟨a, b, xs, ys, rfl, rfl, ha, hb, hz, q⟩ := h
  by_cases hx : xs = []
  · cases rx
    cases ry
    obtain ⟨its, r1, p1, _⟩ := I.tuple ha
    obtain ⟨its2, r2, p2, _⟩ := I.tuple hb
    exact cat_none p1 p2 (r1.nil_iff.mpr hx) ⟨.ref b, H, I, rfl, q b H (Grow.refl _ _) (by rw [hx]; exact hb)⟩
  · exact op_catT pins s σ H _ _ v u Q I rx ry ⟨a, b, xs, ys, rfl, rfl, ha, hb, hx, hz, fun e => q a H (Grow.refl _ _) (by rw [e, List.append_nil]; exact ha), fun _ p hp => q p _ (Grow.new hp _) (SqT.of upd_same)⟩
end
end L3

namespace L3
open PySem PySem.Spec PyProof.Rows L2
end L3
namespace L3
open PySem PySem.Spec PyProof.Rows L2
end L3
namespace L3
open PySem PySem.Spec PyProof.Rows L2
end L3

namespace L3
open PySem PySem.Spec PyProof.Rows L2
def MCallee (P : Program) (w : World) (K : PySem.W.Frag) (mg : Str → Option Value) (base : Heap) (C : Addr) (k : Nat) (m : Str) (ps : List Str) (sp : Sp) : Prop :=
  ∃ (f : Addr) (fd : FuncData), FnOk P w K mg base CX0 k f fd ps sp ∧ Binds K fd ps [] ∧ Meth K C m f
def MkCallee (P : Program) (w : World) (K : PySem.W.Frag) (mg : Str → Option Value) (base : Heap) (C : Addr) (k : Nat) (ps : List Str) (sp : Sp) : Prop :=
  ∃ (j : Nat) (f : Addr) (fd : FuncData), j + 1 = k ∧ FnOk P w K mg base CX0 j f fd ps sp ∧ Binds K fd ps [] ∧ Mk K C f
section
variable {P : Program} {w : World} {K : PySem.W.Frag} {mg : Str → Option Value} {base : Heap} {C : Addr} {j k : Nat} {m : Str} {ps : List Str} {sp : Sp}
theorem MCallee.mono (c : MCallee P w K mg base C j m ps sp) (h : j ≤ k) : MCallee P w K mg base C k m ps sp := by
  obtain ⟨f, fd, F, b, mt⟩ := c
  exact ⟨f, fd, F.mono h, b, mt⟩
theorem MkCallee.mono (c : MkCallee P w K mg base C j ps sp) (h : j ≤ k) : MkCallee P w K mg base C k ps sp := by
  obtain ⟨i, f, fd, e, F, b, mt⟩ := c
  exact ⟨k - 1, f, fd, by omega, F.mono (by omega), b, mt⟩
end
section
variable {X : Cx} {K : PySem.W.Frag} {C : Addr} {k : Nat} {m x : Str} {ps : List Str} {sp : Sp} {o e : Expr} {es : List Expr} {ta : TE} {t : TA} {apos pos p : Pos} {f : Str}
end
structure CTxt (K : PySem.W.Frag) (mg : Str → Option Value) (C : Addr) : Prop where
  cl : Cls K C
  n1 : NoAttr K C "depth"
  n2 : NoAttr K C "gates"
  n3 : NoAttr K C "out_lines"
  n4 : NoAttr K C "ups"
  n5 : NoAttr K C "tokens"
  n6 : NoAttr K C "came_out"
  n7 : NoAttr K C "given"
  mgC : mg "Counter" = some (.ref C)
end L3

namespace L3
open PySem PySem.Spec PyProof.Rows L2
section
variable {X : Cx} {K : PySem.W.Frag}
def FrT (H : Hp) (r : Addr) (xs : List V) : Prop := ∃ o : Obj, H r = some (.frz o (.tup xs)) ∧ o.cls = .type "tuple" ∧ o.dict = none
theorem FrT.sqT {H : Hp} {r : Addr} {xs : List V} (h : FrT H r xs) : SqT K H r xs := by
  obtain ⟨o, e, _⟩ := h
  exact .inl (.inr ⟨o, e⟩)
end
end L3

namespace L3
open PySem PySem.Spec PyProof.Rows L2
def Trc (h : Heap) (e T : Addr) (cls : Value) : Prop :=
  ∃ oe vs oT ts, h.get? e = some oe ∧ oe.cls = cls ∧ oe.data = .fields vs ∧ vs[1]? = some (.ref T) ∧ T ≠ e ∧ h.get? T = some oT ∧ oT.data = .fields ts ∧ ts[3]? = some .none ∧ vs[2]? = some .none
structure Lft (fr : List Addr) (e T0 T : Addr) (cls : Value) (h h' : Heap) : Prop where
  keep : ∀ b o, b ∉ fr → b ≠ e → b ≠ T0 → h.get? b = some o → h'.get? b = some o
  slot : ∀ b o, b ∈ fr → b ≠ e → b ≠ T0 → h.get? b = some o → ∃ sl, h'.get? b = some { o with slots := sl }
  new : h.get? T = none
  trc : Trc h' e T cls
section
variable {M : Model} {A : Around} {E : Value → Shared → Prop} {s : Shared}
end
end L3

namespace L3
open PySem PySem.Spec PyProof.Rows L2
def CX1 (P : Program) (w : World) : CXT := fun outer H s E e s' => ∃ (a T C : Addr) (H' : Hp), e = .ref a ∧ s'.os = s.os ∧ AllBare s'.gens ∧ Un (frs outer) [] H H' s.heap s'.heap ∧ HOk P w H' s'.heap ∧
  Trc s'.heap a T (.ref C) ∧ H' a = none ∧ H' T = none ∧ s.heap.get? a = none ∧ s.heap.get? T = none ∧ E e (some C) H'
theorem ObjOk.at {P : Program} {w : World} {H : Hp} {h : Heap} {a : Addr} {o : HO} (x : ObjOk P w H h a o) : ∃ ob, h.get? a = some ob := by
  induction o with
  | lst xs => obtain ⟨z, its, n, r, e⟩ := x; exact ⟨_, e⟩
  | tup xs => obtain ⟨z, its, r, ob, e, c⟩ := x; exact ⟨_, e⟩
  | dK kvs => obtain ⟨z, y, vs, r, ob, es, ep, e, c⟩ := x; exact ⟨_, e⟩
  | dT kvs => obtain ⟨z, y, xs, r, ob, es, ep, e, c⟩ := x; exact ⟨_, e⟩
  | set S n => obtain ⟨ob, es, ep, t, e, c⟩ := x; exact ⟨_, e⟩
  | ins C dx fs => obtain ⟨d, z, ne, e, _⟩ := x; exact ⟨_, e⟩
  | own y => exact x
  | xd fs => obtain ⟨mA, ⟨od, es, ep, e, c⟩, r⟩ := x; exact ⟨_, e⟩
  | rng lo hi => obtain ⟨t, u, v, e⟩ := x; exact ⟨_, e⟩
  | frz ob u ih => exact ⟨_, x.1⟩
  | tbl ps => exact ⟨_, x⟩
  | met f y => exact ⟨_, x⟩
  | ext φ => exact x.2.1
section
variable {P : Program} {w : World} {K : PySem.W.Frag} {mg : Str → Option Value} {base : Heap} {N : List Str} {qual : Str} {scope : Scope} {f : Addr} {cd : Value} {A : Around} {outer : List Env} {s0 : Shared} {H0 : Hp} {E : XK}
  {pins : List (Addr × Obj)} {σ : L2.St} {H : Hp} {s : Shared}
end
end L3

namespace L3
open PySem PySem.Spec PyProof.Rows L2
abbrev veM : List Value := [.type "ValueError", .type "Exception", .type "BaseException", .type "object"]
def ExcC (K : PySem.W.Frag) (mg : Str → Option Value) (x : Str) (C : Addr) : Prop := ∀ h : Heap, K.In h → OwnCls x C veM "ValueError.__new__" mg h
section
variable {X : Cx} {x : Str} {C : Addr} {np cpos pos : Pos} {e₀ : Expr} {te : TE} {E : XK}
end
section
variable {P : Program} {w : World} {K : PySem.W.Frag} {mg : Str → Option Value} {base : Heap} {N : List Str} {qual : Str} {scope : Scope} {f : Addr} {cd : Value} {A : Around} {outer : List Env} {s0 : Shared} {H0 : Hp} {E : XK}
end
end L3

namespace L3
open PySem PySem.Spec PyProof.Rows L2
section
variable {M : Model} {A : Around} {E : Value → Shared → Prop} {s : Shared}
end
structure ApX (X : Cx) (pins : List (Addr × Obj)) (H : Hp) (a T : Addr) : Prop where
  s0 : ∀ b o, X.s₀.heap.get? b = some o → b ≠ a ∧ b ≠ T
  loc : X.env.locals ≠ a ∧ X.env.locals ≠ T
  cel : ∀ x c, X.env.cells.lookup x = some c → c ≠ a ∧ c ≠ T
  pin : ∀ p ∈ X.pn ++ pins, p.1 ≠ a ∧ p.1 ≠ T
  ha : H a = none
  hT : H T = none
theorem ApX.of {X : Cx} {pins : List (Addr × Obj)} {σ : L2.St} {H H' : Hp} {s : Shared} {a T : Addr} (I : Inv X pins σ H s) (hx : X.ex = []) (na : s.heap.get? a = none) (nT : s.heap.get? T = none) (ha : H' a = none) (hT : H' T = none) : ApX X pins H' a T := by
  have ne : ∀ b o, s.heap.get? b = some o → b ≠ a ∧ b ≠ T := fun b o hb => ⟨fun z => (by rw [z, na] at hb; cases hb), fun z => (by rw [z, nT] at hb; cases hb)⟩
  refine ⟨fun b o hb => ?_, ?_, fun x c hc => ?_, fun p hp => ne _ _ (I.pin p hp).1, ha, hT⟩
  · obtain ⟨o', h1⟩ := I.base.there b o hb (by rw [hx]; simp)
    exact ne b o' h1
  · obtain ⟨m, ⟨o, es, ep, ho, _⟩, _⟩ := I.loc
    exact ne _ _ ho
  · obtain ⟨v, hv⟩ := I.cell x c hc
    obtain ⟨o, ho, _⟩ := hv
    exact ne _ _ ho
end L3

namespace L3
open PySem PySem.Spec PyProof.Rows L2
theorem Inv.leftK {X : Cx} {pins : List (Addr × Obj)} {σ : L2.St} {H : Hp} {s : Shared} {a T0 : Addr} {h2 : Heap} (I : Inv X pins σ H s) (hx : X.ex = []) (ap : ApX X pins H a T0)
    (lk : ∀ b o, b ∉ frs X.stack → b ≠ a → b ≠ T0 → s.heap.get? b = some o → h2.get? b = some o) (ls : ∀ b o, b ∈ frs X.stack → b ≠ a → b ≠ T0 → s.heap.get? b = some o → ∃ sl, h2.get? b = some { o with slots := sl }) : Inv X pins σ H { s with heap := h2 } := by
  have stk : ∀ b, b ∈ frs X.stack → b = X.env.locals ∨ b ∈ X.fs := fun b hb => List.mem_cons.mp (I.stkSub b hb)
  have any : ∀ b o, b ≠ a → b ≠ T0 → s.heap.get? b = some o → ∃ sl, h2.get? b = some { o with slots := sl } := fun b o n1 n2 ho => by
    by_cases z : b ∈ frs X.stack
    · exact ls b o z n1 n2 ho
    · exact ⟨o.slots, lk b o z n1 n2 ho⟩
  have cellK : ∀ x c, X.env.cells.lookup x = some c → ∀ v, s.heap.IsCell c v → h2.IsCell c v := fun x c e v ⟨o, ho, hd⟩ => by
    obtain ⟨n1, n2⟩ := ap.cel x c e
    obtain ⟨sl, h1⟩ := any c o n1 n2 ho
    exact ⟨_, h1, hd⟩
  refine ⟨I.ok, I.os, I.bare, ⟨fun b o hb hn hf hx' => ?_, fun b o hb hn hf hx' => ?_, I.base.free, fun b o hb hx' => ?_, I.base.tups, I.base.frzs, I.base.tbls⟩, ?_, fun x c hc => ?_, I.free, I.freeC, fun p hp => ?_, fun b u q => ?_, I.len⟩
  · obtain ⟨n1, n2⟩ := ap.s0 b o hb
    refine lk b o (fun z => ?_) n1 n2 (I.base.keep b o hb hn hf hx')
    rcases stk b z with z | z
    · exact absurd (Nat.lt_of_lt_of_le (Heap.lt_size hb) I.ok.above) (by rw [z]; exact Nat.lt_irrefl _)
    · exact hf z
  · obtain ⟨n1, n2⟩ := ap.s0 b o hb
    obtain ⟨sl, h1⟩ := I.base.slot b o hb hn hf hx'
    obtain ⟨sl', h3⟩ := any b _ n1 n2 h1
    exact ⟨sl', h3⟩
  · obtain ⟨n1, n2⟩ := ap.s0 b o hb
    obtain ⟨o', h1⟩ := I.base.there b o hb hx'
    obtain ⟨sl, h3⟩ := any b o' n1 n2 h1
    exact ⟨_, h3⟩
  · obtain ⟨m, ⟨o, es, ep, ho, r⟩, hl⟩ := I.loc
    obtain ⟨sl, h1⟩ := any _ o ap.loc.1 ap.loc.2 ho
    refine ⟨m, ⟨_, es, ep, h1, r⟩, fun i x v e1 e2 e3 => ?_⟩
    obtain ⟨u, ru, lk⟩ := hl i x v e1 e2 e3
    refine ⟨u, ru, ?_⟩
    rcases lk with lk | ⟨k1, c, k2, k3⟩
    · exact .inl lk
    · exact .inr ⟨k1, c, k2, cellK x c k2 _ k3⟩
  · obtain ⟨v, hv⟩ := I.cell x c hc
    exact ⟨v, cellK x c hc v hv⟩
  · obtain ⟨p1, p2, p3, p4, p5⟩ := I.pin p hp
    obtain ⟨n1, n2⟩ := ap.pin p hp
    refine ⟨lk _ _ (fun z => ?_) n1 n2 p1, p2, p3, p4, p5⟩
    rcases stk _ z with z | z
    · exact p3 z
    · exact p4 z
  · refine (I.hok b u q).stay (fun c v hc r => ?_) (fun _ r => r) fun _ _ r => r
    have hn : H c ≠ none := by
      rcases hc with rfl | hc
      · rw [q]; exact fun z => nomatch z
      · rw [hc]; exact fun z => nomatch z
    exact lk c v (fun z => hn (I.stkFree c z)) (fun z => hn (by rw [z]; exact ap.ha)) (fun z => hn (by rw [z]; exact ap.hT)) r
theorem Inv.left {X : Cx} {pins : List (Addr × Obj)} {σ : L2.St} {H : Hp} {s : Shared} {a T0 T : Addr} {cls : Value} {h2 : Heap} (I : Inv X pins σ H s) (hx : X.ex = []) (ap : ApX X pins H a T0)
    (l : Lft (frs X.stack) a T0 T cls s.heap h2) : Inv X pins σ H { s with heap := h2 } := Inv.leftK I hx ap l.keep l.slot
end L3

namespace L3
open PySem PySem.Spec PyProof.Rows L2
section
variable {X : Cx} {ps pins : List (Addr × Obj)} {E : Value → Shared → Prop} {σ : L2.St} {H : Hp} {s : Shared}
end
end L3

namespace L3
open PySem PySem.Spec PyProof.Rows L2
section
variable {X : Cx} {pins : List (Addr × Obj)} {σ : L2.St} {H : Hp} {s : Shared} {e : Addr}
end
section
variable {X : Cx} {x : Str} {C : Addr} {np hpos pos : Pos} {body suite : List Stmt} {b₀ : Stmt} {tb th : TS} {E : XK}
end
end L3

namespace L3
open PySem PySem.Spec PyProof.Rows L2
open PySem.W in
/-- an exception class as the text's constants show it -/
theorem excC_of {K : PySem.W.Frag} {mg : Str → Option Value} {x : Str} {C : Addr} (b : mg x = some (.ref C)) (q : PySem.W.excIn K C veM "ValueError.__new__" = true) : ExcC K mg x C := by
  intro h X
  refine ⟨b, ?_⟩
  unfold PySem.W.excIn at q
  cases ho : K.lookup C with
  | none => rw [ho] at q; cases q
  | some ob =>
    rw [ho] at q
    obtain ⟨oc, od, oda, osl⟩ := ob
    split at q
    · rename_i dd cd sl e
      obtain ⟨rfl, rfl, rfl, rfl⟩ := Obj.mk.inj (Option.some.inj e)
      split at q
      · rename_i C' bm k0 k1 k2 k3 n k5 hm hs
        simp only [Bool.and_eq_true, beq_iff_eq, Bool.not_eq_true'] at q
        obtain ⟨⟨⟨⟨⟨rfl, rfl⟩, hdel⟩, ht⟩, hok⟩, hni⟩ := q
        obtain ⟨nm, bs, mro, ns, qn, hd, sn, sub, ab, col, del⟩ := cd
        dsimp only at hm hdel hok hni
        subst hm hdel
        obtain ⟨l⟩ := osl
        have hl : l = [k0, k1, k2, k3, some (.builtin "ValueError.__new__"), k5] := hs
        subst hl
        exact ⟨bm, ns, nm, qn, bs, hd, sn, sub, ab, col, od, k0, k1, k2, k3, k5, _, X _ _ ho, .of_isNs (PySem.W.isNs_of_in X hok), PySem.W.nsMap_none_of_in X hok hni, PySem.W.tail_of_in X ht⟩
      · cases q
    · cases q
end L3

namespace L3
open PySem PySem.Spec PyProof.Rows L2
section
variable {P : Program} {w : World} {K : PySem.W.Frag} {mg : Str → Option Value} {base : Heap}
end
def MCalleeX (P : Program) (w : World) (K : PySem.W.Frag) (mg : Str → Option Value) (base : Heap) (C : Addr) (k : Nat) (m : Str) (ps : List Str) (sp : Sp) : Prop :=
  ∃ (f : Addr) (fd : FuncData), FnOk P w K mg base (CX1 P w) k f fd ps sp ∧ Binds K fd ps [] ∧ Meth K C m f
def CalleeX (P : Program) (w : World) (K : PySem.W.Frag) (mg : Str → Option Value) (base : Heap) (k : Nat) (x : Str) (ps : List Str) (sp : Sp) : Prop :=
  ∃ (f : Addr) (fd : FuncData), FnOk P w K mg base (CX1 P w) k f fd ps sp ∧ Binds K fd ps [] ∧ PySem.W.keepIn K (.ref f) = true ∧ mg x = some (.ref f)
section
variable {P : Program} {w : World} {K : PySem.W.Frag} {mg : Str → Option Value} {base : Heap} {C : Addr} {j k : Nat} {m x : Str} {ps : List Str} {sp : Sp}
theorem MCalleeX.mono (c : MCalleeX P w K mg base C j m ps sp) (h : j ≤ k) : MCalleeX P w K mg base C k m ps sp := by
  obtain ⟨f, fd, F, b, mt⟩ := c
  exact ⟨f, fd, F.mono h, b, mt⟩
theorem CalleeX.mono (c : CalleeX P w K mg base j x ps sp) (h : j ≤ k) : CalleeX P w K mg base k x ps sp := by
  obtain ⟨f, fd, F, b, mt⟩ := c
  exact ⟨f, fd, F.mono h, b, mt⟩
end
section
variable {X : Cx} {C : Addr} {k : Nat} {m x : Str} {ps : List Str} {sp : Sp} {o e : Expr} {es : List Expr} {ta : TE} {t : TA} {apos pos p : Pos} {E : XK}
end
end L3

namespace L3
open PySem PySem.Spec PyProof.Rows L2 PySem.W
open PySem.Builtin PySem.Builtin.ObjectAttr PySem.Builtin.Getset_descriptor in
theorem exc_class_get {prog : Program} {w : World} {A : Around} {s : Shared} {K : PySem.W.Frag} {a C : Addr} {o : Obj} {R : Result → Shared → Prop} {tp : Value} (X : K.In s.heap) (hx : s.heap.get? a = some o) (hc : o.cls = .ref C) (hm : PySem.W.mroIn K C (.type "object") = some true)
    (h : R (.ok (.ret (.ref C))) s) : codeAny (model prog w) A (.call (.builtin "getset_descriptor.__get__") ⟨[.builtin "object.__class__", .ref a, tp], []⟩) R s := by
  obtain ⟨hh, g, dr, t, os⟩ := s
  have L0 : Looks (model prog w) hh (typeOf (.ref a)) (.ref C) := hc ▸ (Looks.ld hx).andThen .now
  have L1 := looks_mroIn (M := model prog w) X hm
  refine codeAny_call_builtin KF.slot_gs.plain KF.entry_gs (KF.slot_gs.check _ _ _ _ _ _ _ _ KF.type_class (KF.args_gs _ _ _) ?_)
  unfold Builtin.«getset_descriptor.__get__» descrGet
  rw [dga_obj]
  refine wpAny_bind (wpAny_pure ?_)
  unfold descrGetter descrCheckInstance descrNameAndClass isInstance
  simp only [KF.owner_class]
  repeat lk
  refine ⟨Code.quiet_builtin _ (by decide +kernel), codeAny_builtin KF.entry_class ?_⟩
  unfold Builtin.«object.__class__» shownTypeOf
  repeat lk
  exact h
section
variable {prog : Program} {w : World} {A : Around} {E : Value → Shared → Prop} {K : PySem.W.Frag} {a C : Addr} {o : Obj} {h : Heap} {g : Array GenState} {d : Drawn} {t : Nat} {os : OsState}
theorem exc_class_entry {tk : Tok} {Q : PySem.Fin → Shared → Prop} (X : K.In h) (hx : h.get? a = some o) (hc : o.cls = .ref C) (ha : findIn K (.ref C) "__class__" = some (some (.builtin "object.__class__"))) (hm : PySem.W.mroIn K C (.type "object") = some true)
    (hq : Q (.done (.ret (.ref C))) ⟨h, g, d, t, os⟩) : wpAny (model prog w) A (Builtin.«object.__getattribute__» ⟨[.ref a, .str "__class__" tk], []⟩) Q E ⟨h, g, d, t, os⟩ := by
  have L0 : Looks (model prog w) h (typeOf (.ref a)) (.ref C) := hc ▸ (Looks.ld hx).andThen .now
  have L1 := looks_findIn (M := model prog w) X ha
  have f5 := PySem.F.typeOf_object_class
  have f6 := PySem.F.slot_gs_get.lookup
  have f7 := PySem.F.slot_gs_set.lookup
  repeat (any_goals (first | assumption | with_reducible refine L0.at ?_ | with_reducible refine L1.at ?_ | (with_reducible refine wpAny_loadPart_at hx ?_; rw [hc]) | wp_step))
  refine exc_class_get X hx hc hm ?_
  repeat (any_goals (first | assumption | wp_step))
end
end L3

namespace L3
open PySem PySem.Spec PyProof.Rows L2 PySem.W
structure ExcK (K : PySem.W.Frag) (C : Addr) : Prop where
  ga : findIn K (.ref C) "__getattribute__" = some (some (.builtin "BaseException.__getattribute__"))
  gt : findIn K (.ref C) "__getattr__" = some none
  cl : findIn K (.ref C) "__class__" = some (some (.builtin "object.__class__"))
  ob : mroIn K C (.type "object") = some true
  be : mroIn K C (.type "BaseException") = some true
def ExO (a C : Addr) : HO := .ext fun h => ∃ o, h.get? a = some o ∧ o.cls = .ref C ∧ ∃ vs, o.data = .fields vs ∧ vs[2]? = some .none
theorem ExO.cl {h : Heap} {a C : Addr} (p : ∃ o, h.get? a = some o ∧ o.cls = .ref C ∧ ∃ vs, o.data = .fields vs ∧ vs[2]? = some .none) : ∃ o, h.get? a = some o ∧ o.cls = .ref C := p.imp fun _ z => ⟨z.1, z.2.1⟩
end L3

namespace L3
open PySem PySem.Spec PyProof.Rows L2 PySem.W
section
variable {X : Cx} {pins : List (Addr × Obj)} {σ : L2.St} {H : Hp} {s : Shared}
end

section
variable {X : Cx} {x y : Str} {C : Addr} {np hpos pos : Pos} {body suite : List Stmt} {b₀ : Stmt} {tb : TS} {th : Addr → TS} {E : XK} {i : Nat} {K : PySem.W.Frag}
end

end L3



namespace L2
open PySem PySem.Spec PyProof.Rows

section
variable {X : Cx} {pins : List (Addr × Obj)} {σ : List (Option V)} {H H' : Hp} {s : Shared} {h' : Heap}

end

end L2

namespace L2
open PySem PySem.Spec PyProof.Rows
section
variable {X : Cx}

variable {a b : Expr} {ta tb : TE} {pos : Pos}
variable {tA tB' : TT} {rest : List Expr}
end
end L2



namespace L2
open PySem PySem.Spec PyProof.Rows

section
variable {X : Cx} {a b c : Expr} {ta tb tc : TE} {pos : Pos}

end

end L2

namespace L2
open PySem PySem.Spec PyProof.Rows

section
variable {prog : Program} {w : World} {A : Around} {E : Value → Shared → Prop} {s : Shared} {K : PySem.W.Frag} {x dx C f : Addr} {mA : Str → Option Value} {name : Str} {v : Value}

end


section
variable {X : Cx} {pins : List (Addr × Obj)} {σ : St} {H : Hp} {s : Shared} {a C dx : Addr} {fs : List (Str × V)} {f : Str} {v : V} {A : Around} {E : Value → Shared → Prop}

end


end L2

namespace L2
open PySem PySem.Spec PyProof.Rows



section
variable {X : Cx} {CX : CXT} {k : Nat} {f C : Addr} {fd : FuncData} {ps : List Str} {sp : Sp} {dvs : List V} {ds : List Value} {E : XK} {x m : Str} {p pos apos : Pos} {e o : Expr} {es : List Expr} {ta : TE} {t : TA}

end


end L2

namespace L2
open PySem PySem.Spec PyProof.Rows
section
variable {X : Cx} {x : Str} {p pos : Pos} {e : Expr} {es : List Expr} {t : TA} {id T : String} {r : List V → Hp → VK → Prop}

end
end L2

namespace L2
open PySem PySem.Spec PyProof.Rows

section
variable {κ : Type} [DecidableEq κ]
def valV (kvs : List (κ × V)) (k : κ) : Option V := (kvs.find? fun kv => decide (kv.1 = k)).map (·.2)
def putK (kvs : List (κ × V)) (k : κ) (v : V) : List (κ × V) :=
  if (kvs.any fun kv => decide (kv.1 = k)) = true then kvs.map (fun kv => if kv.1 = k then (kv.1, v) else kv) else kvs ++ [(k, v)]
def dropK (kvs : List (κ × V)) (k : κ) : List (κ × V) := kvs.filter fun kv => decide (kv.1 ≠ k)

theorem valV_pos {p : κ × V} {r : List (κ × V)} {k : κ} (e : p.1 = k) : valV (p :: r) k = some p.2 := by simp [valV, List.find?_cons, e]
theorem valV_neg {p : κ × V} {r : List (κ × V)} {k : κ} (e : ¬ p.1 = k) : valV (p :: r) k = valV r k := by simp [valV, List.find?_cons, e]
theorem valV_any (k : κ) : ∀ kvs : List (κ × V), (kvs.any fun kv => decide (kv.1 = k)) = (valV kvs k).isSome
  | [] => rfl
  | p :: r => by
    rw [List.any_cons]
    by_cases e : p.1 = k
    · simp only [valV_pos e, decide_eq_true e, Bool.true_or, Option.isSome_some]
    · rw [valV_neg e, decide_eq_false e, Bool.false_or]; exact valV_any k r
theorem length_putK (kvs : List (κ × V)) (k : κ) (v : V) : (putK kvs k v).length ≤ kvs.length + 1 := by
  unfold putK
  split
  · rw [List.length_map]; omega
  · rw [List.length_append, List.length_cons, List.length_nil]; omega
theorem putK_new {kvs : List (κ × V)} {k : κ} (v : V) (h : valV kvs k = none) : putK kvs k v = kvs ++ [(k, v)] := by
  unfold putK
  rw [valV_any, h]
  exact if_neg (by decide)

theorem RelO.isSome_eq {o : Option V} {u : Option Value} (r : RelO o u) : o.isSome = u.isSome := by
  cases o with
  | none => cases u with
    | none => rfl
    | some _ => exact (show False from r).elim
  | some _ => cases u with
    | none => exact (show False from r).elim
    | some _ => rfl
theorem RelO.getD {o : Option V} {u : Option Value} {d : V} {d' : Value} (r : RelO o u) (rd : RelV d d') : RelV (o.getD d) (u.getD d') := by
  cases o with
  | none => cases u with
    | none => exact rd
    | some _ => exact (show False from r).elim
  | some _ => cases u with
    | none => exact (show False from r).elim
    | some _ => exact r

theorem KV.val {kvs : List (κ × V)} {vs : List (κ × Value)} (r : KV kvs vs) (k : κ) : RelO (valV kvs k) (valueAt vs k) := by
  unfold KV at r
  induction r with
  | nil => exact True.intro
  | @cons p q ps qs h t ih =>
    obtain ⟨h1, h2⟩ := h
    by_cases e : p.1 = k
    · have e' : q.1 = k := h1.symm.trans e
      have b : valueAt (q :: qs) k = some q.2 := by simp [valueAt, List.find?_cons, e']
      rw [valV_pos e, b]; exact h2
    · have e' : ¬ q.1 = k := fun z => e (h1.trans z)
      have b : valueAt (q :: qs) k = valueAt qs k := by simp [valueAt, List.find?_cons, e']
      rw [valV_neg e, b]; exact ih
theorem KV.any {kvs : List (κ × V)} {vs : List (κ × Value)} (r : KV kvs vs) (k : κ) : (kvs.any fun kv => decide (kv.1 = k)) = vs.any fun kv => decide (kv.1 = k) := by
  unfold KV at r
  induction r with
  | nil => rfl
  | cons h t ih => rw [List.any_cons, List.any_cons, ih, h.1]
theorem KV.repl {kvs : List (κ × V)} {vs : List (κ × Value)} (r : KV kvs vs) (k : κ) {y : V} {u : Value} (ry : RelV y u) :
    KV (kvs.map fun kv => if kv.1 = k then (kv.1, y) else kv) (vs.map fun kv => if kv.1 = k then (kv.1, u) else kv) := by
  unfold KV at r ⊢
  induction r with
  | nil => exact .nil
  | @cons p q ps qs h t ih =>
    rw [List.map_cons, List.map_cons]
    refine .cons ?_ ih
    obtain ⟨h1, h2⟩ := h
    by_cases e : p.1 = k
    · rw [if_pos e, if_pos (h1.symm.trans e)]; exact ⟨h1, ry⟩
    · rw [if_neg e, if_neg (fun z => e (h1.trans z))]; exact ⟨h1, h2⟩
theorem KV.put {kvs : List (κ × V)} {vs : List (κ × Value)} (r : KV kvs vs) (k : κ) {y : V} {u : Value} (ry : RelV y u) : KV (putK kvs k y) (stored vs k u) := by
  unfold putK stored
  rw [r.any k]
  by_cases e : (vs.any fun kv => decide (kv.1 = k)) = true
  · rw [if_pos e, if_pos e]; exact r.repl k ry
  · rw [if_neg e, if_neg e]; exact Paired.snoc r ⟨rfl, ry⟩
theorem KV.drop {kvs : List (κ × V)} {vs : List (κ × Value)} (r : KV kvs vs) (k : κ) : KV (dropK kvs k) (without vs k) := by
  unfold KV at r ⊢
  unfold dropK without
  induction r with
  | nil => exact .nil
  | @cons p q ps qs h t ih =>
    obtain ⟨h1, h2⟩ := h
    rw [List.filter_cons, List.filter_cons]
    by_cases e : p.1 = k
    · have a : ¬ decide (p.1 ≠ k) = true := by simp [e]
      have b : ¬ decide (q.1 ≠ k) = true := by simp [h1.symm.trans e]
      rw [if_neg a, if_neg b]; exact ih
    · have e' : ¬ q.1 = k := fun z => e (h1.trans z)
      have a : decide (p.1 ≠ k) = true := by simp [e]
      have b : decide (q.1 ≠ k) = true := by simp [e']
      rw [if_pos a, if_pos b]; exact .cons ⟨h1, h2⟩ ih
theorem KV.keys {kvs : List (κ × V)} {vs : List (κ × Value)} (r : KV kvs vs) : kvs.map (·.1) = vs.map (·.1) := by
  unfold KV at r
  induction r with
  | nil => rfl
  | cons h t ih => rw [List.map_cons, List.map_cons, ih, h.1]
theorem KV.length {kvs : List (κ × V)} {vs : List (κ × Value)} (r : KV kvs vs) : kvs.length = vs.length := Paired.length r
end


theorem kV_is {P : Program} {w : World} {k : Key} {u : Value} (r : RelV (kV k) u) : (mixKind P w).is k u = true := by
  cases k with
  | inl i => obtain ⟨t, e⟩ := (show ∃ t, u = Value.int i t from r); subst e; exact mixKind_int P w i t
  | inr x => obtain ⟨t, e⟩ := (show ∃ t, u = Value.str x t from r); subst e; exact mixKind_str P w x t
theorem items_are {P : Program} {w : World} : ∀ {ks : List Key} {us : List Value}, Vals (ks.map kV) us → ItemsAre (mixKind P w) ks us
  | [], _, r => by rw [List.map_nil] at r; cases r; exact .nil
  | k :: ks, _, r => by
    rw [List.map_cons] at r
    cases r with
    | cons h t => exact .cons (kV_is h) (items_are t)

abbrev KT (H : Hp) : List (List Key × V) → List (List Key × Addr × Value) → Prop := Paired fun p q => p.1 = q.1 ∧ H q.2.1 = some (.tup (p.1.map kV)) ∧ RelV p.2 q.2.2
theorem KT.val {H : Hp} {kvs : List (List Key × V)} {xs : List (List Key × Addr × Value)} (r : KT H kvs xs) (k : List Key) : RelO (valV kvs k) ((atKey xs k).map (·.2)) := by
  induction r with
  | nil => exact True.intro
  | @cons p q ps qs h t ih =>
    obtain ⟨h1, _, h2⟩ := h
    by_cases e : p.1 = k
    · have e' : q.1 = k := h1.symm.trans e
      have b : atKey (q :: qs) k = some q.2 := by simp [atKey, List.find?_cons, e']
      rw [valV_pos e, b]; exact h2
    · have e' : ¬ q.1 = k := fun z => e (h1.trans z)
      have b : atKey (q :: qs) k = atKey qs k := by simp [atKey, List.find?_cons, e']
      rw [valV_neg e, b]; exact ih
theorem KT.repl {H : Hp} {kvs : List (List Key × V)} {xs : List (List Key × Addr × Value)} (r : KT H kvs xs) (k : List Key) {y : V} {u : Value} (ry : RelV y u) :
    KT H (kvs.map fun kv => if kv.1 = k then (kv.1, y) else kv) (xs.map (putAt k u)) := by
  induction r with
  | nil => exact .nil
  | @cons p q ps qs h t ih =>
    rw [List.map_cons, List.map_cons]
    refine .cons ?_ ih
    obtain ⟨h1, h2, h3⟩ := h
    unfold putAt
    by_cases e : p.1 = k
    · rw [if_pos e, if_pos (h1.symm.trans e)]; exact ⟨h1, h2, ry⟩
    · rw [if_neg e, if_neg (fun z => e (h1.trans z))]; exact ⟨h1, h2, h3⟩
theorem KT.put {H : Hp} {kvs : List (List Key × V)} {xs : List (List Key × Addr × Value)} (r : KT H kvs xs) (k : List Key) {b : Addr} {y : V} {u : Value} (hb : H b = some (.tup (k.map kV))) (ry : RelV y u) :
    KT H (putK kvs k y) (storedH xs k b u) := by
  have e : (kvs.any fun kv => decide (kv.1 = k)) = (atKey xs k).isSome := by
    rw [valV_any, (r.val k).isSome_eq, Option.isSome_map]
  unfold putK storedH
  rw [e]
  by_cases q : (atKey xs k).isSome = true
  · rw [if_pos q, if_pos q]; exact r.repl k ry
  · rw [if_neg q, if_neg q]; exact Paired.snoc r ⟨rfl, hb, ry⟩
theorem KT.keeps {H H' : Hp} {kvs : List (List Key × V)} {xs : List (List Key × Addr × Value)} (r : KT H kvs xs) (ht : ∀ b ys, H b = some (.tup ys) → H' b = some (.tup ys)) : KT H' kvs xs :=
  Paired.mapP r fun _ _ z => ⟨z.1, ht _ _ z.2.1, z.2.2⟩

section
variable {P : Program} {w : World} {H : Hp} {h : Heap} {a : Addr}
theorem rd_of {u : HO} (ok : HOk P w H h) (e : Rd H a u) : ObjOk P w H h a u := e.ok ok
theorem dk_rd {kvs : List (Key × V)} (ok : HOk P w H h) (e : Rd H a (.dK kvs)) : kvs.length ≤ sizeLine ∧ (a == sysModules) = false ∧ ∃ vs, KV kvs vs ∧ h.DictOf (mixKind P w) a vs :=
  show ObjOk P w H h a (.dK kvs) from rd_of ok e
theorem dk_of {kvs : List (Key × V)} (ok : HOk P w H h) (e : H a = some (.dK kvs)) : kvs.length ≤ sizeLine ∧ (a == sysModules) = false ∧ ∃ vs, KV kvs vs ∧ h.DictOf (mixKind P w) a vs := dk_rd ok (.inl e)
theorem key_of {ks : List Key} (ok : HOk P w H h) (e : H a = some (.tup (ks.map kV))) : (tupleKind (mixKind P w)).is h ks a := by
  obtain ⟨_, its, r, o, h1, h2, n, h3⟩ := (show ObjOk P w H h a (.tup (ks.map kV)) from ok a _ e)
  exact ⟨o, its.toArray, n, h1, h2, h3, by simpa using items_are r⟩
theorem dt_rd {kvs : List (List Key × V)} (ok : HOk P w H h) (e : Rd H a (.dT kvs)) : kvs.length ≤ sizeLine ∧ (a == sysModules) = false ∧
    ∃ xs, KT H kvs xs ∧ h.DictOfH (tupleKind (mixKind P w)) a xs := by
  obtain ⟨z, y, xs, r, o, es, ep, h1, h2, h3, h4, h5⟩ := (show ObjOk P w H h a (.dT kvs) from rd_of ok e)
  refine ⟨z, y, xs, r, o, es, ep, h1, h2, h3, h4, fun x hx => ?_, h5⟩
  have all : ∀ {l : List (List Key × V)} {m : List (List Key × Addr × Value)}, KT H l m → ∀ x ∈ m, (tupleKind (mixKind P w)).is h x.1 x.2.1 := by
    intro l m q
    induction q with
    | nil => intro x hx; exact nomatch hx
    | @cons p q ps qs hq t ih =>
      intro x hx
      rcases List.mem_cons.mp hx with e | hx
      · subst e
        exact key_of ok (by rw [← hq.1]; exact hq.2.1)
      · exact ih x hx
  exact all r x hx
theorem dt_of {kvs : List (List Key × V)} (ok : HOk P w H h) (e : H a = some (.dT kvs)) : kvs.length ≤ sizeLine ∧ (a == sysModules) = false ∧
    ∃ xs, KT H kvs xs ∧ h.DictOfH (tupleKind (mixKind P w)) a xs := dt_rd ok (.inl e)
end

def DGet (H : Hp) (a : Addr) (y : V) (r : Option V) : Prop :=
  (∃ kvs k, Rd H a (.dK kvs) ∧ y = kV k ∧ r = valV kvs k) ∨ ∃ kvs k b, Rd H a (.dT kvs) ∧ y = .ref b ∧ H b = some (.tup (k.map kV)) ∧ r = valV kvs k
def DPut (H : Hp) (a : Addr) (y v : V) (H' : Hp) : Prop :=
  (∃ kvs k, H a = some (.dK kvs) ∧ y = kV k ∧ kvs.length < sizeLine ∧ H' = upd H a (.dK (putK kvs k v))) ∨
  ∃ kvs k b, H a = some (.dT kvs) ∧ y = .ref b ∧ H b = some (.tup (k.map kV)) ∧ kvs.length < sizeLine ∧ H' = upd H a (.dT (putK kvs k v))
theorem DGet.k {H : Hp} {a : Addr} {kvs : List (Key × V)} {k : Key} (e : H a = some (.dK kvs)) : DGet H a (kV k) (valV kvs k) := .inl ⟨kvs, k, .inl e, rfl, rfl⟩
theorem DGet.t {H : Hp} {a b : Addr} {kvs : List (List Key × V)} {k : List Key} (e : H a = some (.dT kvs)) (eb : H b = some (.tup (k.map kV))) : DGet H a (.ref b) (valV kvs k) := .inr ⟨kvs, k, b, .inl e, rfl, eb, rfl⟩
theorem DPut.k {H : Hp} {a : Addr} {kvs : List (Key × V)} {k : Key} {v : V} (e : H a = some (.dK kvs)) (hl : kvs.length < sizeLine) : DPut H a (kV k) v (upd H a (.dK (putK kvs k v))) := .inl ⟨kvs, k, e, rfl, hl, rfl⟩
theorem DPut.t {H : Hp} {a b : Addr} {kvs : List (List Key × V)} {k : List Key} {v : V} (e : H a = some (.dT kvs)) (eb : H b = some (.tup (k.map kV))) (hl : kvs.length < sizeLine) :
    DPut H a (.ref b) v (upd H a (.dT (putK kvs k v))) := .inr ⟨kvs, k, b, e, rfl, eb, hl, rfl⟩


section
variable {X : Cx} {pins : List (Addr × Obj)} {σ : St} {H : Hp} {s : Shared} {a : Addr} {y v : V} {u r : Value} {o : Option V} {A : Around} {E : Value → Shared → Prop}

theorem Inv.big (I : Inv X pins σ H s) : sysModules < s.heap.objs.size := by
  have h : mainGlobals < s.heap.objs.size := (I.mod.glob.keeps I.bk).lt
  exact Nat.lt_trans (by decide) h

theorem d_getItem {Q : Value → Shared → Prop} (hu : A.units + 1 < cLine) (I : Inv X pins σ H s) (g : DGet H a y (some v)) (ry : RelV y u) (h : ∀ w' s', Inv X pins σ H s' → RelV v w' → Q w' s') :
    wpAny (model X.prog X.w) A (getItem (.ref a) u) Q E s := by
  rcases g with ⟨kvs, k, e, ey, l⟩ | ⟨kvs, k, b, e, ey, eb, l⟩
  · subst ey
    obtain ⟨z, hd, vs, rel, dd⟩ := dk_rd I.hok e
    obtain ⟨w', hw, rw'⟩ := RelO.some_of (v := v) (o := valueAt vs k) (by rw [l]; exact rel.val k)
    exact wpAny_getItem_of (kV_is ry) dd.mapOf hw (h w' _ (I.tok _) rw')
  · subst ey
    cases (show u = Value.ref b from ry)
    obtain ⟨z, hd, xs, rel, dd⟩ := dt_rd I.hok e
    obtain ⟨w', hw, rw'⟩ := RelO.some_of (v := v) (o := (atKey xs k).map (·.2)) (by rw [l]; exact rel.val k)
    obtain ⟨p, hp, hp2⟩ := Option.map_eq_some_iff.mp hw
    refine wpAny_getItem_heap (tupleKind_room_in1 hu) (key_of I.hok eb) dd hp ?_
    rw [hp2]
    exact h w' _ (I.tok _) rw'
theorem d_notIn {Q : Value → Shared → Prop} (hu : A.units + 1 < cLine) (I : Inv X pins σ H s) (g : DGet H a y o) (ry : RelV y u) (h : ∀ s', Inv X pins σ H s' → Q (.bool (!o.isSome)) s') :
    wpAny (model X.prog X.w) A (compareOp .NotIn u (.ref a)) Q E s := by
  rcases g with ⟨kvs, k, e, ey, l⟩ | ⟨kvs, k, b, e, ey, eb, l⟩
  · subst ey
    obtain ⟨z, hd, vs, rel, dd⟩ := dk_rd I.hok e
    refine wpAny_notIn_of (kV_is ry) hd dd.mapOf ?_
    rw [← (rel.val k).isSome_eq, ← l]
    exact h _ (I.tok _)
  · subst ey
    cases (show u = Value.ref b from ry)
    obtain ⟨z, hd, xs, rel, dd⟩ := dt_rd I.hok e
    refine wpAny_notIn_heap (tupleKind_room_in1 hu) (key_of I.hok eb) hd dd ?_
    have q := (rel.val k).isSome_eq
    rw [Option.isSome_map] at q
    rw [← q, ← l]
    exact h _ (I.tok _)
theorem d_write {h' : Heap} {t' : Nat} {ob : HO} (I : Inv X pins σ H s) (mu : Mut (H a)) (hs : Heap.SameBut a s.heap h') (he : ∃ q, h'.get? a = some q) (new : ObjOk X.prog X.w (upd H a ob) h' a ob) :
    Inv X pins σ (upd H a ob) { s with heap := h', toks := t' } :=
  I.write (x := a) (e := a) mu (.inl rfl) (fun b q hb z => (hs.2 b hb).trans z) he new
theorem dk_new {P : Program} {w : World} {H' : Hp} {h' : Heap} {kvs : List (Key × V)} {vs : List (Key × Value)} (z : kvs.length ≤ sizeLine) (hd : (a == sysModules) = false) (rel : KV kvs vs) (dd : h'.DictOf (mixKind P w) a vs) :
    ObjOk P w H' h' a (.dK kvs) := ⟨z, hd, vs, rel, dd⟩
theorem d_setItem {H' : Hp} {Q : Unit → Shared → Prop} (hu : A.units + 1 < cLine) (I : Inv X pins σ H s) (g : DPut H a y v H') (ry : RelV y u) (rv : RelV v r) (h : ∀ s', Inv X pins σ H' s' → Q () s') :
    wpAny (model X.prog X.w) A (setItem (.ref a) u r) Q E s := by
  rcases g with ⟨kvs, k, e, ey, l, eH⟩ | ⟨kvs, k, b, e, ey, eb, l, eH⟩
  · subst ey eH
    obtain ⟨z, hd, vs, rel, dd⟩ := dk_of I.hok e
    have hz : vs.length ≤ sizeLine := by rw [← rel.length]; exact z
    have hl : (putK kvs k v).length ≤ sizeLine := by have := length_putK kvs k v; omega
    refine wpAny_setItem_pairs (hsz := hz) (kV_is ry) dd fun h' dd' hs => h _ ?_
    have he : ∃ q, h'.get? a = some q := let ⟨q, _, _, hq, _⟩ := dd'; ⟨q, hq⟩
    exact d_write I (by rw [e]; exact True.intro) hs he (dk_new hl hd (rel.put k rv) dd')
  · subst ey eH
    cases (show u = Value.ref b from ry)
    obtain ⟨z, hd, xs, rel, dd⟩ := dt_of I.hok e
    have hz : xs.length ≤ sizeLine := by rw [← Paired.length rel]; exact z
    have hl : (putK kvs k v).length ≤ sizeLine := by have := length_putK kvs k v; omega
    refine wpAny_setItem_heap (hsz := hz) (tupleKind_room_in1 hu) (key_of I.hok eb) dd fun h' dd' hs => h _ ?_
    obtain ⟨q, es, ep, hq, h2, h3, h4, _, h5⟩ := dd'
    refine d_write I (by rw [e]; exact True.intro) hs ⟨q, hq⟩ ⟨hl, hd, _, (rel.put k eb rv).keeps fun c ys ec => ?_, q, es, ep, hq, h2, h3, h4, h5⟩
    rw [upd_ne (ne_of ec e (fun z => nomatch z))]
    exact ec
end

section
variable {X : Cx} {pins : List (Addr × Obj)} {σ : St} {H : Hp} {s : Shared} {a : Addr} {kvs : List (Key × V)} {k : Key} {u : Value} {A : Around} {E : Value → Shared → Prop}
end


def NoSl (i : Expr) : Prop := ∀ ov iv, subscripted i false ov iv = operate [ov, iv] (getItem ov iv)
theorem subD_of {prog : Program} {w : World} {A : Around} {E : Value → Shared → Prop} {s : Shared} {env : Env} {value slice : Expr} {pos : Pos} {T id : String} {Q : Value → Shared → Prop}
    (hl : typeLookup (.type T) "__getitem__" = pure (some (.builtin id))) (hs : NoSl slice)
    (h : wpAny (model prog w) A (eval value env) (fun o s₁ => wpAny (model prog w) A (eval slice env) (fun i s₂ => s₂.TypeIs o T ∧ wpAny (model prog w) A (getItem o i) Q E s₂) E s₁) E s) :
    wpAny (model prog w) A (eval (.Subscript value slice pos) env) Q E s := by
  refine Subscript_ (wpAny_mono h (fun o s₁ h₁ => wpAny_mono h₁ (fun i s₂ h₂ => ?_) fun _ _ x => x) fun _ _ x => x)
  obtain ⟨hT, h₂⟩ := h₂
  unfold subscriptTail
  refine wpAny_bind ?_
  rw [getitemInPython_of_ne hT.not_modules]
  refine wpAny_bind (wpAny_specialOf hT hl ?_)
  have fin : wpAny (model prog w) A (subscripted slice false o i) (fun r s₃ => wpAny (model prog w) A (letTemporaryGo value o r >>= fun _ => pure r) Q E s₃) E s₂ := by
    rw [hs o i]
    exact wpAny_operating (wpAny_mono h₂ (fun r s₃ h₃ => wpAny_bind (wpAny_letTemporaryGo (wpAny_pure h₃))) fun _ _ x => x)
  first
    | exact wpAny_pure (wpAny_bind fin)
    | exact wpAny_bind (wpAny_pure (wpAny_bind fin))
    | exact wpAny_bind fin

theorem dict_typeIs {X : Cx} {pins : List (Addr × Obj)} {σ : St} {H : Hp} {s : Shared} {a : Addr} {y : V} {o : Option V} (I : Inv X pins σ H s) (g : DGet H a y o) : s.TypeIs (.ref a) "dict" := by
  rcases g with ⟨kvs, k, e, _, _⟩ | ⟨kvs, k, b, e, _, _, _⟩
  · obtain ⟨_, _, vs, _, dd⟩ := dk_rd I.hok e
    exact dd.typeIs
  · obtain ⟨_, _, xs, _, dd⟩ := dt_rd I.hok e
    exact dd.typeIs

def tDGet (td ty : TE) : TE := fun σ H Q => td σ H fun x H1 => ty σ H1 fun y H2 => ∃ a v, x = .ref a ∧ DGet H2 a y (some v) ∧ Q v H2
def tDNotIn (ty td : TE) : TE := fun σ H Q => ty σ H fun y H1 => td σ H1 fun x H2 => ∃ a o, x = .ref a ∧ DGet H2 a y o ∧ Q (.bl (!o.isSome)) H2
def sDPut (td ty tv : TE) : TS := fun D σ H => tv σ H fun v H1 => td σ H1 fun x H2 => ty σ H2 fun y H3 => ∃ a H4, x = .ref a ∧ DPut H3 a y v H4 ∧ D.nx σ H4

section
variable {X : Cx} {o i e value : Expr} {pos pos' tpos : Pos} {td ty tv : TE}
theorem pe_dget (hu : X.A.units + 1 < cLine) (ho : PE X o td) (hi : PE X i ty) (hs : NoSl i) : PE X (.Subscript o i pos) (tDGet td ty) := by
  intro pins s σ H Q I h
  refine subD_of PySem.F.slot_dict_getitem.lookup hs (thn (ho pins s σ H _ I h) fun u s1 ⟨x, H1, I1, rx, q1⟩ => thn (hi pins s1 σ H1 _ I1 q1) fun iv s2 ⟨y, H2, I2, ry, a, v, ex, g, q2⟩ => ?_)
  subst ex
  obtain rfl : u = Value.ref a := rx
  exact ⟨dict_typeIs I2 g, d_getItem hu I2 g ry fun w' s3 I3 rw' => ⟨v, H2, I3, rw', q2⟩⟩
theorem pc_dnotin (hu : X.A.units + 1 < cLine) (hi : PE X i ty) (ho : PE X o td) : PC X .NotIn i o (tDNotIn ty td) := by
  intro pins s σ H Q I h
  refine thn (hi pins s σ H _ I h) fun iv s1 ⟨y, H1, I1, ry, q1⟩ => thn (ho pins s1 σ H1 _ I1 q1) fun u s2 ⟨x, H2, I2, rx, a, ov, ex, g, q2⟩ => ?_
  subst ex
  obtain rfl : u = Value.ref a := rx
  exact d_notIn hu I2 g ry fun s3 I3 => ⟨.bl (!ov.isSome), H2, I3, rfl, q2⟩
theorem ps_dput (hu : X.A.units + 1 < cLine) (ho : PE X o td) (hi : PE X i ty) (hv : PE X value tv) (hs : swapsWith value (some (.Subscript o i pos')) pos.line X.env = pure false) :
    PS X (.Assign [.Subscript o i pos'] value pos) (sDPut td ty tv) := by
  intro pins s σ H D I h
  refine wpAny_Assign_Subscript (thn (hv pins s σ H _ I h) fun r s1 ⟨v, H1, I1, rv, q1⟩ => thn (ho pins s1 σ H1 _ I1 q1) fun u s2 ⟨x, H2, I2, rx, q2⟩ => thn (hi pins s2 σ H2 _ I2 q2) fun iv s3 ⟨y, H3, I3, ry, a, H4, ex, g, q3⟩ => ?_) hs
  subst ex
  obtain rfl : u = Value.ref a := rx
  exact d_setItem hu I3 g ry rv fun s4 I4 => ⟨σ, H4, I4, q3⟩
end


theorem dt_empty {P : Program} {w : World} {H : Hp} (h : Heap) (hb : sysModules < h.objs.size) : ObjOk P w H (h.push { cls := .type "dict", data := .dict #[] }) h.objs.size (.dT []) :=
  ⟨Nat.zero_le _, beq_eq_false_iff_ne.mpr (Ne.symm (Nat.ne_of_lt hb)), [], .nil, _, #[], 0, Heap.get?_push_size _ rfl, ⟨rfl, rfl, rfl⟩, rfl, rfl, List.nodup_nil⟩
section
variable {X : Cx} {pos : Pos}
end




structure M1 (X : Cx) (o : Expr) (m : Str) (apos : Pos) (e : Expr) (cpos : Pos) : Prop where
  base : attributeBase o m X.env (eval o X.env) = eval o X.env
  few : ((backTo cpos (starEach [e] X.env)).all (fun x => !x.1) && (backToKw cpos (keywordEach [] X.env)).all (fun x => x.1.isSome)
    && decide (([e] : List Expr).length + ([] : List Keyword).length + (if ([] : List Keyword).isEmpty then 0 else 1) < 30)) = true
  line : (apos.endLine == cpos.line) = true
  trees : backTo cpos (starEach [e] X.env) = [(false, eval e X.env)]
structure M2 (X : Cx) (o : Expr) (m : Str) (apos : Pos) (e f : Expr) (cpos : Pos) : Prop where
  base : attributeBase o m X.env (eval o X.env) = eval o X.env
  few : ((backTo cpos (starEach [e, f] X.env)).all (fun x => !x.1) && (backToKw cpos (keywordEach [] X.env)).all (fun x => x.1.isSome)
    && decide (([e, f] : List Expr).length + ([] : List Keyword).length + (if ([] : List Keyword).isEmpty then 0 else 1) < 30)) = true
  line : (apos.endLine == cpos.line) = true
  trees : backTo cpos (starEach [e, f] X.env) = [(false, eval e X.env), (false, eval f X.env)]


section
variable {X : Cx} {pins : List (Addr × Obj)} {σ : St} {H : Hp} {s : Shared} {a : Addr} {y d : V} {u r : Value} {o : Option V} {A : Around} {E : Value → Shared → Prop}
end

section
variable {X : Cx} {o e f : Expr} {apos cpos : Pos} {td ty tx : TE}
end

section
variable {X : Cx} {pins : List (Addr × Obj)} {σ : St} {H : Hp} {s : Shared} {a : Addr} {kvs : List (Key × V)} {A : Around} {E : Value → Shared → Prop}
end


section
variable {X : Cx} {pins : List (Addr × Obj)} {σ : St} {H : Hp} {s : Shared} {a : Addr} {y : V} {u : Value} {A : Around} {E : Value → Shared → Prop}
end
end L2

namespace Att
open PySem PySem.W PySem.Calls PyProof.Rows

section
variable {prog : Program} {w : World} {A : Around} {E : Value → Shared → Prop} {s : Shared} {K : Frag}

end
end Att



namespace L2
open PySem PySem.Spec PyProof.Rows

section
variable {X : Cx}
end

section
variable {κ : Type} [DecidableEq κ]
end
end L2

namespace L3
open PySem PySem.Spec PyProof.Rows L2
section
variable {prog : Program} {w : World} {κ : Type} [DecidableEq κ] {knd : HeapKind prog w κ} {A : Around} {E : Value → Shared → Prop} {s : Shared}
theorem lenH_meets (d : Addr) (hd : (d == sysModules) = false) :
    MeetsIn prog w (Builtin.«dict.__len__» ⟨[.ref d], []⟩) (fun _ R s => ∃ xs, s.heap.DictOfH knd d xs ∧ R (.ok (.ret (.int xs.length s.toks))) { s with toks := s.toks + 1 }) :=
  .of_wp fun A R s ⟨xs, hm, h⟩ => by
    obtain ⟨o, es, ep, ho, hc, hdat, he, _, _⟩ := hm
    show wpAny _ _ (dictSize d >>= _) _ _ s
    unfold dictSize
    refine wpAny_bind (wpAny_bind (wpAny_dictEntries ho hdat (wpAny_pure ?_)))
    show wpAny _ _ (Builtin.Dict.pendingCount d >>= _) _ _ s
    refine wpAny_bind (wpAny_pendingCount_other hd ?_)
    refine wpAny_ret_mkInt ?_
    rw [Nat.add_zero, size_of_entries he]; exact h
theorem lenH_body {d : Addr} {xs : List (κ × Addr × Value)} {Q : Value → Shared → Prop} (hd : (d == sysModules) = false) (hm : s.heap.DictOfH knd d xs) (hfit : (xs.length : Int) < 2 ^ 63)
    (h : Q (.int xs.length (s.toks + 1)) { s with toks := s.toks + 1 + 1 }) : wpAny (model prog w) A (Builtin.«len» ⟨[.ref d], []⟩) (fun fin s' => ∃ r, fin = .done (.ret r) ∧ Q r s') E s := by
  unfold Builtin.«len»
  refine wpAny_bind (m := oneArg "len" _) (wpAny_pure ?_)
  refine wpAny_bind (m := callSpecial? (.ref d) (Str.ofString "__len__")) (wpAny_callSpecial?_slot (name := Str.ofString "__len__") hm.typeIs F.slot_dict_len
    (call_meetsIn F.slot_dict_len hm.typeIs F.entry_dict_len (F.args_dict_len_1 _) (lenH_meets (knd := knd) d hd) ⟨xs, hm, ?_⟩))
  show wpAny _ _ _ _ _ { s with toks := s.toks + 1 }
  refine wpAny_bind (wpAny_holding (wpAny_pure ?_))
  refine wpAny_bind (wpAny_letGo ?_)
  show wpAny _ _ (if ((xs.length : Nat) : Int) < 0 then _ else _) _ _ _
  rw [if_neg (by omega)]
  show wpAny _ _ (if ((xs.length : Nat) : Int) ≥ 2 ^ 63 then _ else _) _ _ _
  rw [if_neg (by omega)]
  exact wpAny_bind (wpAny_mkInt (wpAny_pure ⟨_, rfl, h⟩))
end
section
variable {X : Cx}
theorem call_lenDT : CallR X (.builtin "len") (fun xs H Q => ∃ a kvs, xs = [V.ref a] ∧ H a = some (.dT kvs) ∧ Q (.int kvs.length) H) := by
  intro pins s σ H xs us Q I r h
  obtain ⟨a, kvs, rfl, ha, q⟩ := h
  obtain ⟨u, rfl, ru⟩ := vals1 r
  cases ru
  obtain ⟨z, hd, ys, rel, dd⟩ := dt_of I.hok ha
  have hl : kvs.length = ys.length := Paired.length rel
  refine Calls.call_function_entry kind_len plain_len entry_len (args_len1 _) (lenH_body hd dd (by rw [← hl]; rw [sizeLine_eq] at z; omega) ?_)
  rw [← hl]
  exact ⟨.int kvs.length, H, I.tok _, ⟨_, rfl⟩, q⟩
end
def tDispT1 (tk tv : TE) : TE := fun σ H Q => ∀ p, H p = none → tk σ (upd H p (.dT [])) fun y H1 => tv σ H1 fun v H2 => H2 p = some (.dT []) ∧ ∃ b ks, y = .ref b ∧ H2 b = some (.tup (ks.map kV)) ∧ Q (.ref p) (upd H2 p (.dT [(ks, v)]))
section
variable {X : Cx} {pos : Pos} {k v : Expr} {tk tv : TE}
theorem pe_dispT1 (hu : X.A.units + 1 < cLine) (hk : PE X k tk) (hv : PE X v tv) : PE X (.Dict [some k] [v] pos) (tDispT1 tk tv) := by
  intro pins s σ H Q I q
  have hn := I.hok.fresh (Nat.le_refl s.heap.objs.size)
  have I1 := I.laid (a := s.heap.objs.size) (o := .dT []) (h' := s.heap.push { cls := .type "dict", data := .dict #[] }) (t' := s.toks) (fun _ _ q => Heap.get?_push_of_some _ q) (Nat.le_refl _) (dt_empty s.heap I.big)
  rw [arm_eval_Dict, zip_pairTrees [some k] [v] X.env pos rfl rfl, dictDisplay_pairs (pairTrees [some k] [v] X.env pos) (by intro z; cases z) (show 1 < 17 by decide)]
  refine wpAny_bind (wpAny_standAt (wpAny_bind ?_))
  unfold subDict
  refine wpAny_bind (wpAny_alloc ?_)
  refine wpAny_bind (wpAny_holding ?_)
  rw [if_pos (show (pairTrees [some k] [v] X.env pos).length ≤ 15 from (show 1 ≤ 15 by decide))]
  refine wpAny_bind (pairTrees_cons_walk (thn (hk pins _ σ _ _ I1 (q _ hn)) fun kv s1 ⟨y, H1, I2, ry, q1⟩ => thn (hv pins s1 σ H1 _ I2 q1) fun vv s2 ⟨vV, H2, I3, rv, e, b, ks, ey, eb, q2⟩ => pairTrees_nil_walk ?_))
  subst ey
  cases (show kv = Value.ref b from ry)
  obtain ⟨z, hd, xs, rel, dd⟩ := dt_of I3.hok e
  cases rel
  refine wpAny_holding ?_
  rw [List.forIn_cons]
  refine wpAny_bind (wpAny_bind (wpAny_bind (wpAny_dictSet_heap (hsz := Nat.zero_le _) (show (tupleKind (mixKind X.prog X.w)).room X.A from Nat.lt_of_succ_lt hu) (key_of I3.hok eb) dd fun h' dd' hs => wpAny_pure ?_)))
  show wpAny _ _ (forIn [] _ _) _ _ _
  rw [List.forIn_nil]
  first
    | refine wpAny_pure (wpAny_pure (wpAny_pure (wpAny_pure ⟨.ref s.heap.objs.size, _, ?_, rfl, q2⟩)))
    | refine wpAny_pure (wpAny_pure (wpAny_pure ⟨.ref s.heap.objs.size, _, ?_, rfl, q2⟩))
  obtain ⟨qo, es, ep, hq, h2, h3, h4, _, h5⟩ := dd'
  refine d_write I3 (by rw [e]; exact True.intro) hs ⟨qo, hq⟩ ⟨by show 1 ≤ _; rw [sizeLine_eq]; decide, hd, _, (KT.put .nil ks eb rv).keeps fun c ys ec => ?_, qo, es, ep, hq, h2, h3, h4, h5⟩
  rw [upd_ne (ne_of ec e (fun z => nomatch z))]
  exact ec
end
end L3

namespace L3
open PySem PySem.Spec PyProof.Rows L2 PySem.W
def EntAt (es : Array DictEntry) (d : Addr) (ep : Nat) (h : Heap) : Prop := ∃ o, h.get? d = some o ∧ o.ExactDict ∧ o.data = .dict es ep
section
variable {prog : Program} {w : World} {A : Around} {E : Value → Shared → Prop} {s : Shared} {es : Array DictEntry} {d it : Addr} {ep i : Nat}
theorem EntAt.typeIs (h : EntAt es d ep s.heap) : s.TypeIs (.ref d) "dict" := let ⟨o, ho, hc, _⟩ := h; ⟨o, ho, hc.1⟩
theorem EntAt.keep {h h' : Heap} (x : EntAt es d ep h) (e : ∀ o, h.get? d = some o → h'.get? d = some o) : EntAt es d ep h' := let ⟨o, ho, r⟩ := x; ⟨o, e o ho, r⟩
theorem ent_iter {Q : Value → Shared → Prop} (hd : (d == sysModules) = false) (hm : EntAt es d ep s.heap)
    (hQ : Q (.ref s.heap.objs.size) { s with heap := s.heap.push { cls := .type "dict_keyiterator", data := .fields #[.ref d, .int 0 0, .int es.size 0, .int ep 0] } }) :
    wpAny (model prog w) A (pyIter (.ref d)) Q E s := by
  obtain ⟨o, ho, hc, hdat⟩ := id hm
  have hT : s.TypeIs (.ref d) "dict" := hm.typeIs
  refine wpAny_pyIter_slot hT PySem.F.slot_dict_iter (wpAny_call_entry PySem.F.slot_dict_iter hT PySem.F.entry_dict_iter ?_ (PySem.F.args_dict_iter_1 _))
  unfold Builtin.«dict.__iter__»
  refine wpAny_bind ?_
  unfold Builtin.Dict.dictSlotNone
  refine wpAny_bind (wpAny_notOrdered_dict hT ?_)
  show wpAny _ _ (pure (Value.ref d)) _ _ s
  refine wpAny_pure ?_
  show wpAny _ _ (Builtin.Dict.showsAll d >>= _) _ _ s
  unfold Builtin.Dict.showsAll
  rw [if_neg (by rw [hd]; exact Bool.false_ne_true)]
  refine wpAny_bind (wpAny_pure ?_)
  refine wpAny_bind (wpAny_dictEntries ho hdat ?_)
  refine wpAny_bind (wpAny_dictEpoch ho hdat ?_)
  refine wpAny_bind (wpAny_newObj_type (wpAny_pure ⟨_, rfl, "dict_keyiterator", _, ⟨_, Heap.get?_push_size _ rfl, rfl⟩, PySem.F.slot_dict_keyiterator_next.lookup, ?_⟩))
  simpa [rawInt] using hQ
theorem ent_next {Q : Option Value → Shared → Prop} (hit : s.heap.IsKeyIter it d i es.size ep) (hm : EntAt es d ep s.heap) (hlt : i < es.size)
    (hQ : ∀ h', h'.IsKeyIter it d (i + 1) es.size ep → Heap.SameBut it s.heap h' → Q (some es[i].key) { s with heap := h' }) :
    wpAny (model prog w) A (pyNext (.ref it)) Q E s := by
  obtain ⟨o, ho, hc, hd⟩ := id hit
  obtain ⟨od, hod, hcd, hdd⟩ := id hm
  unfold pyNext
  refine wpAny_bind (wpAny_attempt (wpAny_callSpecial?_slot (name := Str.ofString "__next__") hit.typeIs PySem.F.slot_dict_keyiterator_next
    (wpAny_call_entry PySem.F.slot_dict_keyiterator_next hit.typeIs PySem.F.entry_dict_keyiterator_next ?_ (PySem.F.args_dict_keyiterator_next_1 _))))
  refine wpAny_bind (wpAny_pure ?_)
  refine wpAny_bind ?_
  refine wpAny_bind ?_
  first | refine wpAny_bind (wpAny_typeNameOfWhole_keyiter hit.typeIs (wpAny_pure ?_)) | refine wpAny_bind (wpAny_typeNameOf_keyiter hit.typeIs (wpAny_pure ?_))
  refine wpAny_bind (wpAny_fieldsOf ho hd ?_)
  have hown : Builtin.Dict_items.ownsTuple "dict_keyiterator" = false := by decide
  simp only [hown, Bool.false_eq_true, if_false]
  show wpAny _ _ (if (Value.ref d == Value.none) = true then _ else _) _ _ s
  rw [if_neg (show ¬ ((Value.ref d == Value.none) = true) from Bool.false_ne_true)]
  refine wpAny_bind (wpAny_pure ?_)
  refine wpAny_bind (wpAny_dictEntries hod hdd ?_)
  rw [if_neg (by simp)]
  refine wpAny_bind (wpAny_pure ?_)
  refine wpAny_bind (wpAny_dictEpoch hod hdd ?_)
  rw [if_neg (by simp)]
  refine wpAny_pure ?_
  simp only [show ¬ ((i : Int) < 0) from by omega, if_false, Int.toNat_natCast, Array.getElem?_eq_getElem hlt]
  refine wpAny_bind ?_
  first | refine wpAny_bind (wpAny_typeNameOfWhole_keyiter hit.typeIs (wpAny_pure ?_)) | refine wpAny_bind (wpAny_typeNameOf_keyiter hit.typeIs (wpAny_pure ?_))
  refine wpAny_bind (wpAny_isOneOf_keyiter hit.typeIs ?_)
  show wpAny _ _ (setField (.ref it) 1 (rawInt ((i : Int) + 1)) >>= _) _ _ s
  refine wpAny_bind (wpAny_setField ho hd (by simp) ?_)
  have hit' : (s.heap.update it (Obj.mapFields (·.setIfInBounds 1 (rawInt ((i : Int) + 1))))).IsKeyIter it d (i + 1) es.size ep :=
    ⟨_, Heap.get?_update_self _ ho (Obj.isFreed_of_fields (Obj.data_mapFields hd _)), (Obj.cls_mapFields ..).trans hc, by rw [Obj.data_mapFields hd]; simp [rawInt]⟩
  refine wpAny_bind (wpAny_holding ?_)
  refine wpAny_bind (wpAny_isOneOf_keyiter (s := { s with heap := s.heap.update it (Obj.mapFields (·.setIfInBounds 1 (rawInt ((i : Int) + 1)))) }) hit'.typeIs ?_)
  show wpAny _ _ (pure es[i].key) _ _ _
  exact wpAny_pure (wpAny_pure ⟨_, rfl, wpAny_pure (hQ _ hit' (Heap.SameBut.update ..))⟩)
theorem ent_end {Q : Option Value → Shared → Prop} (hh : A.handled = none) (hit : s.heap.IsKeyIter it d es.size es.size ep) (hm : EntAt es d ep s.heap)
    (hQ : ∀ h', Heap.ExtBut it s.heap h' → Q none { s with heap := h' }) : wpAny (model prog w) A (pyNext (.ref it)) Q E s := by
  obtain ⟨o, ho, hc, hd⟩ := id hit
  obtain ⟨od, hod, hcd, hdd⟩ := id hm
  unfold pyNext
  refine wpAny_bind (wpAny_attempt (wpAny_callSpecial?_slot (name := Str.ofString "__next__") hit.typeIs PySem.F.slot_dict_keyiterator_next
    (wpAny_call_entry PySem.F.slot_dict_keyiterator_next hit.typeIs PySem.F.entry_dict_keyiterator_next ?_ (PySem.F.args_dict_keyiterator_next_1 _))))
  refine wpAny_bind (wpAny_pure ?_)
  refine wpAny_bind ?_
  refine wpAny_bind ?_
  first | refine wpAny_bind (wpAny_typeNameOfWhole_keyiter hit.typeIs (wpAny_pure ?_)) | refine wpAny_bind (wpAny_typeNameOf_keyiter hit.typeIs (wpAny_pure ?_))
  refine wpAny_bind (wpAny_fieldsOf ho hd ?_)
  have hown : Builtin.Dict_items.ownsTuple "dict_keyiterator" = false := by decide
  simp only [hown, Bool.false_eq_true, if_false]
  show wpAny _ _ (if (Value.ref d == Value.none) = true then _ else _) _ _ s
  rw [if_neg (show ¬ ((Value.ref d == Value.none) = true) from Bool.false_ne_true)]
  refine wpAny_bind (wpAny_pure ?_)
  refine wpAny_bind (wpAny_dictEntries hod hdd ?_)
  rw [if_neg (by simp)]
  refine wpAny_bind (wpAny_pure ?_)
  refine wpAny_bind (wpAny_dictEpoch hod hdd ?_)
  rw [if_neg (by simp)]
  refine wpAny_pure ?_
  simp only [show ¬ ((es.size : Int) < 0) from by omega, if_false, Int.toNat_natCast, Array.getElem?_eq_none (Nat.le_refl es.size)]
  refine wpAny_bind ?_
  first | refine wpAny_bind (wpAny_typeNameOfWhole_keyiter hit.typeIs (wpAny_pure ?_)) | refine wpAny_bind (wpAny_typeNameOf_keyiter hit.typeIs (wpAny_pure ?_))
  show wpAny _ _ (setField (.ref it) 0 .none >>= _) _ _ s
  refine wpAny_bind (wpAny_setField ho hd (by simp) ?_)
  show wpAny _ _ (newExc (.type "StopIteration") [] >>= _) _ _ _
  refine wpAny_bind ?_
  simp only [newExc, newTuple]
  refine wpAny_bind (wpAny_newObj_type ?_ (by size_fits))
  refine wpAny_bind (m := firstArgMember _ _) (wpAny_of_eq (a := Value.none) (by first | rfl | (simp only [firstArgMember]; rfl)) ?_)
  refine wpAny_newObj_type ?_ (by size_fits)
  simp only [raiseNew]
  refine wpAny_bind (wpAny_handled ?_)
  rw [show A.in1.handled = none from hh]
  refine wpAny_bind (wpAny_pure (wpAny_throw ?_))
  refine wpAny_bind (wpAny_isInstance (T := "StopIteration") (b := true) ⟨_, Heap.get?_push_size _ rfl, rfl⟩ isSubtype_stop ?_)
  exact wpAny_pure (hQ _ (((Heap.SameBut.update ..).extBut.push _).push _))
theorem ent_walks (hh : A.handled = none) (I d : Addr) (hne : d ≠ I) (es : Array DictEntry) (ep : Nat) :
    Walks prog w A I [I, d] [I] es.size (fun i v => ∃ h : i < es.size, v = es[i].key) (fun i h => h.IsKeyIter I d i es.size ep ∧ EntAt es d ep h) where
  sub := fun b hb => by simp at hb; simp [hb]
  frame := fun _ _ _ st hk => ⟨st.1.at fun o e => hk I (by simp) o e, st.2.keep fun o e => hk d (by simp) o e⟩
  item := fun i s Q E hi st hQ => by
    refine ent_next st.1 st.2 hi fun h' hit' hs' => ?_
    exact hQ _ h' s.toks ⟨hi, rfl⟩ ⟨hit', st.2.keep fun o e => hs'.extBut d o hne e⟩ fun b o hb e => hs'.extBut b o (fun h => hb (by simp [h])) e
  done := fun s Q E st hQ => ent_end hh st.1 st.2 fun h' he' => hQ h' s.toks fun b o hb e => he' b o (fun h => hb (by simp [h])) e
  self := fun _ _ _ _ st hQ => wpAny_pyIter_keyiter st.1 hQ
theorem ent_src (lo : (d == sysModules) = false) : KdlSrc prog w "dict" d d es.size (fun i v => ∃ h : i < es.size, v = es[i].key) (EntAt es d ep) where
  type := fun _ hm => hm.typeIs
  there := fun _ hm => let ⟨_, ho, _⟩ := hm; ⟨Heap.lt_size ho, Heap.lt_size ho⟩
  keep := fun _ _ hm hk => hm.keep fun o e => hk d (.inl rfl) o e
  notList := by decide
  notTuple := by decide
  hint := fun _ _ _ _ hm hq => kdl_hint_dict hm.typeIs hq
  iter := fun _ _ hh hm => ⟨_, _, (fun _ _ hq => ent_iter lo hm hq), ent_walks hh _ d (let ⟨_, ho, _⟩ := hm; Nat.ne_of_lt (Heap.lt_size ho)) es ep, ⟨⟨_, Heap.get?_push_size _ rfl, rfl, rfl⟩, hm.keep fun o e => Heap.get?_push_of_some _ e⟩⟩
end
def KeyAt (H : Hp) (z : V) (p : List Key × V) : Prop := ∃ b, z = .ref b ∧ H b = some (.tup (p.1.map kV))
theorem keys_all {H : Hp} : ∀ {kvs : List (List Key × V)} {xs : List (List Key × Addr × Value)}, KT H kvs xs → AllR (KeyAt H) (xs.map fun q => V.ref q.2.1) kvs
  | _, _, .nil => trivial
  | _, _, .cons h t => ⟨⟨_, rfl, h.2.1⟩, keys_all t⟩
theorem keys_vals : ∀ xs : List (List Key × Addr × Value), Vals (xs.map fun q => V.ref q.2.1) (xs.map fun q => Value.ref q.2.1)
  | [] => .nil
  | _ :: xs => .cons rfl (keys_vals xs)
section
variable {X : Cx}
end
end L3

namespace L3
open PySem PySem.Spec PyProof.Rows L2 HT
section
variable {X : Cx} {K : PySem.W.Frag}
end
section
variable {prog : Program} {w : World} {A : Around} {E : Value → Shared → Prop} {s : Shared}
theorem collect_range {Q : List Value → Shared → Prop} {r : Addr} {a b c : Int} {t u v : Tok} {n : Nat} (hh : A.handled = none) (hr : IsRange s.heap r a b c t u v) (hsmall : Builtin.Range.small a b c = true)
    (hn : Builtin.Range.rangeSize a b c = n) (hlen : n ≤ 2 ^ 24)
    (hQ : ∀ (h' : Heap) tk acc', (∀ b o, s.heap.get? b = some o → h'.get? b = some o) → ItemsOf (fun i v => ∃ t, v = .int (a + i * c) t) acc' n → Q acc'.toList { s with heap := h', toks := tk }) :
    wpAny (model prog w) A (collect (.ref r)) Q E s := by
  unfold collect
  refine wpAny_bind (wpAny_runValue (codeAny_builtin F.entry_proto_collect ?_))
  rw [Around.under_plainId F.plain_proto_collect _]
  show wpAny _ A.in1 (newList [] >>= fun l => again (.builtin "list.__iadd__" ⟨[l, .ref r], []⟩)) _ _ s
  refine wpAny_bind (wpAny_newObj_type ?_)
  refine wpAny_pure ⟨plainId_quiet F.plain_list_iadd _, codeAny_builtin F.entry_list_iadd ?_⟩
  rw [Around.under_plainId F.plain_list_iadd _]
  show wpAny _ A.in1 (Builtin.List.listExtendWith (.ref s.heap.objs.size) (.ref r) (.ref s.heap.objs.size)) _ _ _
  have hS : (s.heap.push { cls := .type "list", data := .seq ([] : List Value).toArray }).get? s.heap.objs.size = some { cls := .type "list", data := .seq ([] : List Value).toArray } := Heap.get?_push_size _ rfl
  have hr' : IsRange (s.heap.push { cls := .type "list", data := .seq ([] : List Value).toArray }) r a b c t u v := Heap.get?_push_of_some _ hr
  have fin : ∀ (h' : Heap) tk acc' c', (∀ b o, s.heap.get? b = some o → h'.get? b = some o) → h'.get? s.heap.objs.size = some { cls := .type "list", dict := none, data := .seq acc' c', slots := #[] } → ItemsOf (fun i v => ∃ t, v = .int (a + i * c) t) acc' n →
      wpAny (model prog w) A (load s.heap.objs.size >>= fun o => match o.data with | .seq xs _ => pure xs.toList | _ => unsupported "internal:collect") Q E { s with heap := h', toks := tk } := fun h' tk acc' c' hk hS' hacc =>
    wpAny_bind (wpAny_load hS' (wpAny_pure (hQ h' tk acc' hk hacc)))
  refine wpAny_mono (wpAny_extend_range (R := fun r' s' => ∃ (h' : Heap) (tk : Nat) (acc' : Array Value) (c' : Nat), r' = .ok (.ret (.ref s.heap.objs.size)) ∧ s' = { s with heap := h', toks := tk } ∧ (∀ b o, s.heap.get? b = some o → h'.get? b = some o) ∧ h'.get? s.heap.objs.size = some { cls := .type "list", dict := none, data := .seq acc' c', slots := #[] } ∧ ItemsOf (fun i v => ∃ t, v = .int (a + i * c) t) acc' n) (s := { s with heap := s.heap.push { cls := .type "list", data := .seq ([] : List Value).toArray } }) (A := A) hh hr' hsmall hn hlen s.heap.objs.size _ _ hS fun h' tk acc' c' hk hS hacc =>
    ⟨h', tk, acc', c', rfl, rfl, fun b o e => hk b o (Nat.ne_of_lt (Heap.lt_size e)) (Heap.get?_push_of_some _ e), hS, hacc⟩) (fun fn s' h => ?_) (fun e s' h => ?_)
  · cases fn with
    | done f =>
      obtain ⟨h', tk, acc', c', e, rfl, hf, hl, hS'⟩ := h
      cases e
      exact fin h' tk acc' c' hf hl hS'
    | again c =>
      refine ⟨h.1, codeAny_mono h.2 fun r s'' hr => ?_⟩
      obtain ⟨h', tk, acc', c', e, rfl, hf, hl, hS'⟩ := hr
      subst e
      exact fin h' tk acc' c' hf hl hS'
  · obtain ⟨h', tk, acc', c', e, _⟩ := h
    cases e
theorem call_tuple_range {Q : Value → Shared → Prop} {r : Addr} {a b c : Int} {t u v : Tok} {n : Nat} (hh : A.handled = none) (hr : IsRange s.heap r a b c t u v) (hsmall : Builtin.Range.small a b c = true)
    (hn : Builtin.Range.rangeSize a b c = n) (hlen : n ≤ 2 ^ 24) (hsz : n ≤ sizeLine)
    (hQ : ∀ (h' : Heap) tk acc', (∀ b o, s.heap.get? b = some o → h'.get? b = some o) → ItemsOf (fun i v => ∃ t, v = .int (a + i * c) t) acc' n → Q (.ref h'.objs.size) { s with heap := h'.push { cls := .type "tuple", data := .seq acc' }, toks := tk }) :
    wpAny (model prog w) A (call (.type "tuple") [.ref r]) Q E s := by
  refine callType_codes (Q₁ := fun obj s₁ => s₁.TypeIs obj "tuple" ∧ Q obj s₁) F.called_tuple (F.typeCall_tuple_1 _) F.entry_object_init ?_ fun obj s₁ h₁ => ?_
  · refine codeAny_of_tree ?_
    show wpAny _ A.in1.in1 (do checkBuiltinCall "tuple.__new__" ⟨[.type "tuple", .ref r], []⟩; again (.builtin "tuple.__new__" ⟨[.type "tuple", .ref r], []⟩)) _ _ s
    refine wpAny_bind (wpAny_of_eq (F.newCall_tuple_1 _) (wpAny_pure ⟨plainId_quiet F.plain_tuple_new _, codeAny_builtin F.entry_tuple_new ?_⟩))
    rw [Around.under_plainId F.plain_tuple_new _]
    have hsub := sub_tuple_self
    have hinit := init_tuple_lookup
    have hmh := madeHere_tuple
    have hTI : s.TypeIs (.ref r) "range" := ⟨_, hr, rfl⟩
    wp_walk using wpAny_typeOf hTI, collect_range (A := A.in1.in1) hh hr hsmall hn hlen
    intro h' tk acc hf hacc
    show wpAny _ _ (Builtin.Tuple.tupleExact acc.toList.toArray >>= fun v => ret v) _ _ _
    unfold Builtin.Tuple.tupleExact
    refine wpAny_bind (wpAny_newObj_type ?_ (by show acc.toList.toArray.size ≤ sizeLine; simp only [Array.toArray_toList]; rw [hacc.1]; exact hsz))
    refine wpAny_pure ⟨⟨_, Heap.get?_push_size _ rfl, rfl⟩, ?_⟩
    have e : acc.toList.toArray = acc := by simp
    rw [e]
    exact hQ h' tk acc hf hacc
  · exact ⟨h₁.1, F.args_object_init_2 obj _, object_init_meets F.called_tuple.init.lookup F.called_tuple.made (by decide) prog w A.in1 _ s₁ ⟨h₁.1, rfl, h₁.2⟩⟩
end
theorem vals_range : ∀ (m : Nat) (l : List Value) (j : Nat), l.length = m → (∀ i v, l[i]? = some v → ∃ t, v = Value.int ((j + i : Nat) : Int) t) → Vals ((List.range' j m).map fun i : Nat => V.int i) l := by
  intro m
  induction m with
  | zero =>
    intro l j hl _
    rw [List.length_eq_zero_iff.mp hl]
    exact .nil
  | succ m ih =>
    intro l j hl hv
    match l, hl, hv with
    | x :: l, hl, hv =>
      refine .cons ?_ (ih l (j + 1) (by simpa using hl) fun i v h => ?_)
      · obtain ⟨t, e⟩ := hv 0 x rfl
        exact ⟨t, e⟩
      · obtain ⟨t, e⟩ := hv (i + 1) v (by simpa using h)
        exact ⟨t, by rw [e, show j + (i + 1) = j + 1 + i by omega]⟩
section
variable {X : Cx} {a : Expr} {ta : TA} {p p2 pos pos2 : Pos}
def tRngT (ta : TA) : TE := fun σ H Q => ta σ H fun vs H1 => ∃ n : Nat, vs = [.int n] ∧ n ≤ 1000 ∧ ∀ l, H1 l = none → Q (.ref l) (upd H1 l (.tup ((List.range n).map fun i : Nat => V.int i)))
theorem pe_tupRange (hc : X.calm = true) (hgl : Gl X "tuple") (hml : X.mg "tuple" = none) (hgr : Gl X "range") (hmr : X.mg "range" = none) (ha : PA X [a] ta)
    (hs : starEach [a] X.env = [(false, eval a X.env)] := by rfl) (hs2 : starEach [(.Call (.Name "range" p2) [a] [] pos2 : Expr)] X.env = [(false, eval (.Call (.Name "range" p2) [a] [] pos2) X.env)] := by rfl) :
    PE X (.Call (.Name "tuple" p) [.Call (.Name "range" p2) [a] [] pos2] [] pos) (tRngT ta) := by
  intro pins s σ H Q I h
  refine wpAny_Call_Name_kw (ld_blt I hgl hml b_tuple (PyProof.Rows.callWith_type1 ?_ hs2 rfl))
  rw [hs2]
  show wpAny _ _ (spliced [(false, eval (.Call (.Name "range" p2) [a] [] pos2) X.env)]) _ _ s
  refine Calls.spliced_cons ?_
  refine Call_ (ld_blt I hgr hmr boot_range (PyProof.Rows.callWith_type1 (thn (ha pos2 pins s σ H _ I h) fun us s1 ⟨vs, H1, I1, r1, q1⟩ => ?_) hs rfl))
  obtain ⟨n, e, hn, q⟩ := q1
  subst e
  obtain ⟨u, rfl, e1⟩ := vals1 r1
  obtain ⟨t, rfl⟩ := e1
  refine call_range_1 (Calls.spliced_nil ?_)
  have I2 : Inv X pins σ H1 { s1 with heap := s1.heap.push { cls := .type "range", data := .fields #[.int 0 s1.toks, .int n t, .int 1 (s1.toks + 1)] }, toks := s1.toks + 1 + 1 } := I1.kept fun b o e => Heap.get?_push_of_some _ e
  refine call_tuple_range (n := n) (I.ok.hd hc) (IsRange.new ..) (small_one (by omega) (by omega) (by omega) (by omega)) (by rw [rangeSize_one]; split <;> omega) (by omega) (Nat.le_of_lt (small1000 hn)) fun h' tk acc hk hacc => ?_
  have hvr : Vals ((List.range n).map fun i : Nat => V.int i) acc.toList := by
    have hlen : acc.toList.length = n := by rw [Array.length_toList]; exact hacc.1
    rw [List.range_eq_range']
    refine vals_range n acc.toList 0 hlen fun i v h => ?_
    obtain ⟨t, e⟩ := hacc.2 i v (by rw [← h]; exact (Array.getElem?_toList).symm)
    exact ⟨t, by rw [e]; congr 1; omega⟩
  have I3 : Inv X pins σ H1 { s1 with heap := h', toks := tk } := I2.kept (t' := tk) hk
  refine ⟨.ref h'.objs.size, _, I3.laid (t' := tk) (o := .tup ((List.range n).map fun i : Nat => V.int i)) (fun b o e => Heap.get?_push_of_some _ e) (Nat.le_refl _) ⟨by rw [List.length_map, List.length_range]; exact Nat.le_of_lt (small1000 hn), acc.toList, hvr, by simpa using IsTup.new _ _⟩, rfl, q _ (I3.hok.fresh (Nat.le_refl _))⟩
end
end L3

namespace L3
open PySem PySem.Spec PyProof.Rows L2
def thenL (a b : List Int) : List Int := a.map fun i => b.getD i.toNat 0
theorem thenL_len {a b : List Int} : (thenL a b).length = a.length := by unfold thenL; rw [List.length_map]
theorem thenL_rng {S : Nat} {a b : List Int} (ha : Rng S a) (hb : Rng S b) (hl : b.length = S) : Rng S (thenL a b) := by
  intro x hx
  obtain ⟨i, hi, rfl⟩ := List.mem_map.mp hx
  have h1 := ha i hi
  have h2 : i.toNat < b.length := by omega
  refine hb _ ?_
  rw [List.getD_eq_getElem?_getD, List.getElem?_eq_getElem h2, Option.getD_some]
  exact List.getElem_mem h2
def cellT (tab : List (List Int)) (i j : Int) : Int := (tab.getD i.toNat []).getD j.toNat 0
def misT (tab : List (List Int)) (i j l : Nat) : Prop := cellT tab (cellT tab i j) l ≠ cellT tab i (cellT tab j l)
def FirstT (tab : List (List Int)) (i j l : Nat) : Prop := (i < tab.length ∧ j < tab.length ∧ l < tab.length) ∧ misT tab i j l ∧
  ∀ i' j' l' : Nat, i' < tab.length → j' < tab.length → l' < tab.length → (i' < i ∨ (i' = i ∧ (j' < j ∨ (j' = j ∧ l' < l)))) → ¬ misT tab i' j' l'
theorem FirstT.eq {tab : List (List Int)} {i j l i' j' l' : Nat} (a : FirstT tab i j l) (b : FirstT tab i' j' l') : i = i' ∧ j = j' ∧ l = l' := by
  have h1 : ¬ (i' < i ∨ (i' = i ∧ (j' < j ∨ (j' = j ∧ l' < l)))) := fun z => a.2.2 i' j' l' b.1.1 b.1.2.1 b.1.2.2 z b.2.1
  have h2 : ¬ (i < i' ∨ (i = i' ∧ (j < j' ∨ (j = j' ∧ l < l')))) := fun z => b.2.2 i j l a.1.1 a.1.2.1 a.1.2.2 z a.2.1
  omega
def BrkAt (K : PySem.W.Frag) (H : Hp) (tab : List (List Int)) (y : V) : Prop :=
  (y = .non ∧ ∀ i j l : Nat, i < tab.length → j < tab.length → l < tab.length → ¬ misT tab i j l) ∨ ∃ i j l : Nat, FirstT tab i j l ∧ BoardAt K H y [(i : Int), (j : Int), (l : Int)]
def FamD (H : Hp) (x : V) (fam : List (List Int)) : Prop := ∃ l kvs, x = .ref l ∧ H l = some (.dT kvs) ∧ kvs.map (·.1) = fam.map (List.map Sum.inl)
theorem kv_ints : ∀ d : List Int, (d.map (Sum.inl : Int → Key)).map kV = d.map V.int
  | [] => rfl
  | x :: d => by rw [List.map_cons, List.map_cons, List.map_cons, kv_ints d]; rfl
def brkD : Option (Nat × Nat × Nat) → PyData
  | none => .none
  | some t => intsD [(t.1 : Int), (t.2.1 : Int), (t.2.2 : Int)]
def BrkO (tab : List (List Int)) : Option (Nat × Nat × Nat) → Prop
  | none => ∀ i j l : Nat, i < tab.length → j < tab.length → l < tab.length → ¬ misT tab i j l
  | some t => FirstT tab t.1 t.2.1 t.2.2
theorem BrkO.eq {tab : List (List Int)} {o o' : Option (Nat × Nat × Nat)} (a : BrkO tab o) (b : BrkO tab o') : o = o' := by
  cases o with
  | none => cases o' with
    | none => rfl
    | some t => exact absurd b.2.1 (a _ _ _ b.1.1 b.1.2.1 b.1.2.2)
  | some t => cases o' with
    | none => exact absurd a.2.1 (b _ _ _ a.1.1 a.1.2.1 a.1.2.2)
    | some t' =>
      obtain ⟨i, j, l⟩ := t
      obtain ⟨i', j', l'⟩ := t'
      obtain ⟨e1, e2, e3⟩ := FirstT.eq a b
      rw [show i = i' from e1, show j = j' from e2, show l = l' from e3]
theorem BrkAt.o {K : PySem.W.Frag} {H : Hp} {tab : List (List Int)} {y : V} (h : BrkAt K H tab y) : ∃ o, BrkO tab o ∧ Dat K H y (brkD o) ∧ ((o = none ∧ y = .non) ∨ ∃ a, y = .ref a) := by
  rcases h with ⟨rfl, h⟩ | ⟨i, j, l, h, hb⟩
  · exact ⟨none, h, .non, .inl ⟨rfl, rfl⟩⟩
  · exact ⟨some (i, j, l), h, hb.dat, .inr (let ⟨a, e, _⟩ := hb; ⟨a, e⟩)⟩
theorem BrkAt.grow {K : PySem.W.Frag} {m : List Addr} {H H' : Hp} {tab : List (List Int)} {y : V} (h : BrkAt K H tab y) (g : Grow m H H') : BrkAt K H' tab y := by
  rcases h with h | ⟨i, j, l, h, hb⟩
  · exact .inl h
  · exact .inr ⟨i, j, l, h, g.board hb⟩
section
variable {X : Cx} {K : PySem.W.Frag}
end
def TabG (K : PySem.W.Frag) (H : Hp) (y : V) (tab : List (List Int)) : Prop := RowsAt K H y tab ∧ 1 ≤ tab.length ∧ tab.length ≤ 60 ∧ TabOk tab.length tab.length tab
def AskedAt (K : PySem.W.Frag) (H : Hp) (z : V) : Prop := ∃ t y1 y2 tab, z = .ref t ∧ SqT K H t [y1, y2] ∧ TabG K H y1 tab ∧ BrkAt K H tab y2
theorem AskedAt.grow {K : PySem.W.Frag} {m : List Addr} {H H' : Hp} {z : V} (h : AskedAt K H z) (g : Grow m H H') : AskedAt K H' z := by
  obtain ⟨t, y1, y2, tab, e, h1, ⟨h2, h3⟩, h4⟩ := h
  exact ⟨t, y1, y2, tab, e, g.sqT h1, ⟨g.rows h2, h3⟩, h4.grow g⟩
end L3

namespace L3
end L3

namespace L3
theorem nd1 {α : Type} {a : α} : [a].Nodup := List.nodup_cons.mpr ⟨(fun z => nomatch z), List.nodup_nil⟩
def idL (S : Nat) : List Int := (List.range S).map fun i : Nat => (i : Int)
abbrev FW := List (List Int × List Int)
def keysF (f : FW) : List (List Int) := f.map (·.1)
def wordOf (f : FW) (d : List Int) : Option (List Int) := (f.find? fun p => decide (p.1 = d)).map (·.2)
theorem wordOf_some {d : List Int} : ∀ {f : FW}, d ∈ keysF f → ∃ w, wordOf f d = some w
  | [], h => by cases h
  | p :: f, h => by
    by_cases e : p.1 = d
    · exact ⟨p.2, by simp [wordOf, List.find?_cons, e]⟩
    · have : d ∈ keysF f := by
        rcases List.mem_cons.mp h with h | h
        · exact absurd h.symm e
        · exact h
      obtain ⟨w, hw⟩ := wordOf_some this
      exact ⟨w, by simpa [wordOf, List.find?_cons, e] using hw⟩
theorem wordOf_in {d w : List Int} : ∀ {f : FW}, wordOf f d = some w → (d, w) ∈ f
  | [], h => by cases h
  | p :: f, h => by
    by_cases e : p.1 = d
    · have h' : p.2 = w := by simpa [wordOf, List.find?_cons, e] using h
      exact List.mem_cons.mpr (.inl (by rw [← e, ← h']))
    · exact List.mem_cons.mpr (.inr (wordOf_in (by simpa [wordOf, List.find?_cons, e] using h)))
theorem wordOf_key {f : FW} {d w : List Int} (h : wordOf f d = some w) : d ∈ keysF f := List.mem_map.mpr ⟨_, wordOf_in h, rfl⟩
theorem wordOf_none {f : FW} {d : List Int} (h : ¬ (wordOf f d).isSome = true) : d ∉ keysF f := fun z => by
  obtain ⟨w, hw⟩ := wordOf_some z
  rw [hw] at h; exact h rfl
def fStep (d : List Int) (fm : FW × List (List Int)) (n : Nat) (m : List Int) : FW × List (List Int) :=
  if (wordOf fm.1 (thenL d m)).isSome = true then fm else (fm.1 ++ [(thenL d m, (wordOf fm.1 d).getD [] ++ [(n : Int)])], fm.2 ++ [thenL d m])
def fRow (ms : List (List Int)) (d : List Int) : Nat → FW × List (List Int) → FW × List (List Int)
  | 0, fm => fm
  | i + 1, fm => fStep d (fRow ms d i fm) i (ms.getD i [])
def fPass (ms last : List (List Int)) : Nat → FW × List (List Int) → FW × List (List Int)
  | 0, fm => fm
  | j + 1, fm => fRow ms (last.getD j []) ms.length (fPass ms last j fm)
inductive FamR (ms : List (List Int)) : FW → List (List Int) → FW → Prop
  | done {f : FW} {last : List (List Int)} : last = [] ∨ 60 < f.length → FamR ms f last f
  | step {f r : FW} {last : List (List Int)} : last ≠ [] → f.length ≤ 60 → FamR ms (fPass ms last last.length (f, [])).1 (fPass ms last last.length (f, [])).2 r → FamR ms f last r
theorem FamR.eq {ms : List (List Int)} {f r : FW} {last : List (List Int)} (a : FamR ms f last r) : ∀ {r'}, FamR ms f last r' → r = r' := by
  induction a with
  | done h =>
    intro r' b
    cases b with
    | done _ => rfl
    | step h1 h2 _ => rcases h with h | h
                      · exact absurd h h1
                      · omega
  | step h1 h2 _ ih =>
    intro r' b
    cases b with
    | done h => rcases h with h | h
                · exact absurd h h1
                · omega
    | step _ _ c => exact ih c
inductive Word (ms : List (List Int)) (S : Nat) : List Int → Prop
  | id : Word ms S (idL S)
  | more {d m : List Int} : Word ms S d → m ∈ ms → Word ms S (thenL d m)
def Mks (ms : List (List Int)) (S : Nat) : Prop := ∀ m ∈ ms, m.length = S ∧ Rng S m
def Dd (S : Nat) (d : List Int) : Prop := d.length = S ∧ Rng S d
theorem idL_dd (S : Nat) : Dd S (idL S) := by
  refine ⟨by unfold idL; rw [List.length_map, List.length_range], fun v hv => ?_⟩
  obtain ⟨i, hi, rfl⟩ := List.mem_map.mp hv
  have := List.mem_range.mp hi
  omega
theorem thenL_dd {S : Nat} {a b : List Int} (ha : Dd S a) (hb : Dd S b) : Dd S (thenL a b) := ⟨thenL_len.trans ha.1, thenL_rng ha.2 hb.2 hb.1⟩
theorem Word.dd {ms : List (List Int)} {S : Nat} (hm : Mks ms S) {d : List Int} (h : Word ms S d) : Dd S d := by
  induction h with
  | id => exact idL_dd S
  | more _ h ih => exact thenL_dd ih (hm _ h)
theorem idL_get {S : Nat} {i : Int} (h0 : 0 ≤ i) (h1 : i < S) : (idL S).getD i.toNat 0 = i := by
  have : i.toNat < S := by omega
  unfold idL
  rw [List.getD_eq_getElem?_getD, List.getElem?_map, List.getElem?_range this]
  show ((i.toNat : Nat) : Int) = i
  omega
theorem thenL_id {S : Nat} {a : List Int} (ha : Dd S a) : thenL a (idL S) = a := by
  unfold thenL
  conv => rhs; rw [← List.map_id a]
  refine List.map_congr_left fun i hi => ?_
  obtain ⟨h0, h1⟩ := ha.2 i hi
  exact idL_get h0 h1
theorem thenL_assoc {S : Nat} {a b c : List Int} (ha : Dd S a) (hb : b.length = S) : thenL a (thenL b c) = thenL (thenL a b) c := by
  unfold thenL
  rw [List.map_map]
  refine List.map_congr_left fun i hi => ?_
  obtain ⟨h0, h1⟩ := ha.2 i hi
  have hi' : i.toNat < b.length := by omega
  show (b.map fun i => c.getD i.toNat 0).getD i.toNat 0 = c.getD (b.getD i.toNat 0).toNat 0
  rw [List.getD_eq_getElem?_getD, List.getElem?_map, List.getElem?_eq_getElem hi', List.getD_eq_getElem?_getD (l := b), List.getElem?_eq_getElem hi']
  rfl
theorem Word.mul {ms : List (List Int)} {S : Nat} (hm : Mks ms S) {a b : List Int} (ha : Word ms S a) (hb : Word ms S b) : Word ms S (thenL a b) := by
  induction hb with
  | id => rw [thenL_id (ha.dd hm)]; exact ha
  | more h1 h2 ih => rw [thenL_assoc (ha.dd hm) (h1.dd hm).1]; exact .more ih h2
def Ex (fm fm' : FW × List (List Int)) : Prop := ∃ g : FW, fm'.1 = fm.1 ++ g ∧ fm'.2 = fm.2 ++ keysF g
theorem Ex.refl (fm : FW × List (List Int)) : Ex fm fm := ⟨[], by rw [List.append_nil], by show _ = _ ++ []; rw [List.append_nil]⟩
theorem Ex.trans {a b c : FW × List (List Int)} (h : Ex a b) (k : Ex b c) : Ex a c := by
  obtain ⟨g, h1, h2⟩ := h
  obtain ⟨g', k1, k2⟩ := k
  exact ⟨g ++ g', by rw [k1, h1, List.append_assoc], by rw [k2, h2, List.append_assoc]; unfold keysF; rw [List.map_append]⟩
theorem Ex.keys {a b : FW × List (List Int)} (h : Ex a b) {d : List Int} (hd : d ∈ keysF a.1) : d ∈ keysF b.1 := by
  obtain ⟨g, h1, _⟩ := h
  unfold keysF at *
  rw [h1, List.map_append]
  exact List.mem_append.mpr (.inl hd)
theorem ex_len {a b : FW × List (List Int)} (h : Ex a b) (l : a.2.length ≤ a.1.length) : b.2.length ≤ b.1.length := by
  obtain ⟨g, h1, h2⟩ := h
  rw [h1, h2, List.length_append, List.length_append]
  unfold keysF
  rw [List.length_map]
  omega
theorem fStep_ex {d m : List Int} {fm : FW × List (List Int)} {n : Nat} : Ex fm (fStep d fm n m) := by
  unfold fStep
  split
  · exact Ex.refl fm
  · exact ⟨[_], rfl, rfl⟩
theorem fRow_ex {ms : List (List Int)} {d : List Int} {fm : FW × List (List Int)} : ∀ i, Ex fm (fRow ms d i fm)
  | 0 => Ex.refl fm
  | i + 1 => (fRow_ex i).trans fStep_ex
theorem fPass_ex {ms last : List (List Int)} {fm : FW × List (List Int)} : ∀ j, Ex fm (fPass ms last j fm)
  | 0 => Ex.refl fm
  | j + 1 => (fPass_ex j).trans (fRow_ex _)
theorem fStep_in {d m : List Int} {fm : FW × List (List Int)} {n : Nat} : thenL d m ∈ keysF (fStep d fm n m).1 := by
  unfold fStep
  split
  · rename_i h
    obtain ⟨w, hw⟩ := Option.isSome_iff_exists.mp h
    exact wordOf_key hw
  · unfold keysF; rw [List.map_append]; exact List.mem_append.mpr (.inr (List.mem_singleton.mpr rfl))
theorem fRow_in {ms : List (List Int)} {d : List Int} {fm : FW × List (List Int)} : ∀ i, ∀ k < i, thenL d (ms.getD k []) ∈ keysF (fRow ms d i fm).1
  | 0, _, h => by cases h
  | i + 1, k, h => by
    by_cases e : k = i
    · rw [e]; exact fStep_in
    · exact fStep_ex.keys (fRow_in i k (by omega))
theorem fPass_in {ms last : List (List Int)} {fm : FW × List (List Int)} : ∀ j, ∀ k < j, ∀ i < ms.length, thenL (last.getD k []) (ms.getD i []) ∈ keysF (fPass ms last j fm).1
  | 0, _, h, _, _ => by cases h
  | j + 1, k, h, i, hi => by
    by_cases e : k = j
    · rw [e]; exact fRow_in _ i hi
    · exact (fRow_ex _).keys (fPass_in j k (by omega) i hi)
theorem fStep_le {d m : List Int} {fm : FW × List (List Int)} {n : Nat} : (fStep d fm n m).1.length ≤ fm.1.length + 1 := by
  unfold fStep
  split
  · omega
  · rw [List.length_append]; exact Nat.le_refl _
theorem fRow_le {ms : List (List Int)} {d : List Int} {fm : FW × List (List Int)} : ∀ i, (fRow ms d i fm).1.length ≤ fm.1.length + i
  | 0 => Nat.le_refl _
  | i + 1 => Nat.le_trans fStep_le (by have := fRow_le (ms := ms) (d := d) (fm := fm) i; omega)
theorem fPass_le {ms last : List (List Int)} {fm : FW × List (List Int)} : ∀ j, (fPass ms last j fm).1.length ≤ fm.1.length + j * ms.length
  | 0 => by rw [Nat.zero_mul]; exact Nat.le_refl _
  | j + 1 => Nat.le_trans (fRow_le _) (by have := fPass_le (ms := ms) (last := last) (fm := fm) j; rw [Nat.succ_mul]; omega)
structure GoodF (ms : List (List Int)) (S : Nat) (f : FW) : Prop where
  nd : (keysF f).Nodup
  wd : ∀ d ∈ keysF f, Word ms S d
theorem fStep_good {ms : List (List Int)} {S : Nat} {d m : List Int} {fm : FW × List (List Int)} {n : Nat} (h : GoodF ms S fm.1) (hd : Word ms S d) (hm : m ∈ ms) : GoodF ms S (fStep d fm n m).1 := by
  unfold fStep
  split
  · exact h
  · rename_i c
    have hn := wordOf_none c
    refine ⟨?_, fun z hz => ?_⟩
    · show (keysF (fm.1 ++ [_])).Nodup
      unfold keysF at hn ⊢
      rw [List.map_append]
      refine List.nodup_append.mpr ⟨h.nd, nd1, fun a ha b hb e => ?_⟩
      rw [e, List.mem_singleton.mp hb] at ha
      exact hn ha
    · unfold keysF at hz
      rw [List.map_append] at hz
      rcases List.mem_append.mp hz with hz | hz
      · exact h.wd z hz
      · rw [List.mem_singleton.mp hz]; exact .more hd hm
theorem getD_mem {ms : List (List Int)} {i : Nat} (h : i < ms.length) : ms.getD i [] ∈ ms := by
  rw [List.getD_eq_getElem?_getD, List.getElem?_eq_getElem h]; exact List.getElem_mem h
theorem fRow_good {ms : List (List Int)} {S : Nat} {d : List Int} {fm : FW × List (List Int)} (h : GoodF ms S fm.1) (hd : Word ms S d) : ∀ i, i ≤ ms.length → GoodF ms S (fRow ms d i fm).1
  | 0, _ => h
  | i + 1, hi => fStep_good (fRow_good h hd i (by omega)) hd (getD_mem (by omega))
theorem fPass_good {ms last : List (List Int)} {S : Nat} {fm : FW × List (List Int)} (h : GoodF ms S fm.1) (hd : ∀ d ∈ last, Word ms S d) : ∀ j, j ≤ last.length → GoodF ms S (fPass ms last j fm).1
  | 0, _ => h
  | j + 1, hj => fRow_good (fPass_good h hd j (by omega)) (hd _ (getD_mem (by omega))) _ (Nat.le_refl _)
structure LI (ms : List (List Int)) (S : Nat) (f : FW) (last : List (List Int)) : Prop where
  good : GoodF ms S f
  idk : idL S ∈ keysF f
  sub : ∀ d ∈ last, d ∈ keysF f
  len : last.length ≤ f.length
  cl : ∀ d ∈ keysF f, d ∉ last → ∀ m ∈ ms, thenL d m ∈ keysF f
  hd : f.head? = some (idL S, [])
theorem LI.init (ms : List (List Int)) (S : Nat) : LI ms S [(idL S, [])] [idL S] where
  good := ⟨nd1, fun d hd => by rw [List.mem_singleton.mp hd]; exact .id⟩
  idk := List.mem_singleton.mpr rfl
  sub := fun d hd => hd
  len := Nat.le_refl _
  cl := fun d hd hn => absurd hd hn
  hd := rfl
theorem mem_getD {l : List (List Int)} {d : List Int} (h : d ∈ l) : ∃ k < l.length, l.getD k [] = d := by
  obtain ⟨k, hk, e⟩ := List.mem_iff_getElem.mp h
  exact ⟨k, hk, by rw [List.getD_eq_getElem?_getD, List.getElem?_eq_getElem hk]; exact e⟩
theorem LI.pass {ms last : List (List Int)} {S : Nat} {f : FW} (h : LI ms S f last) : LI ms S (fPass ms last last.length (f, [])).1 (fPass ms last last.length (f, [])).2 := by
  have hE : Ex (f, []) (fPass ms last last.length (f, [])) := fPass_ex _
  have hI := fun k hk i hi => fPass_in (ms := ms) (last := last) (fm := (f, [])) last.length k hk i hi
  have hG := fPass_good (last := last) (fm := (f, [])) h.good (fun d hd => h.good.wd d (h.sub d hd)) last.length (Nat.le_refl _)
  revert hE hI hG
  generalize fPass ms last last.length (f, []) = fm
  intro hE hI hG
  obtain ⟨g, e1, e2⟩ := id hE
  rw [List.nil_append] at e2
  have ek : keysF fm.1 = keysF f ++ keysF g := by rw [e1]; unfold keysF; rw [List.map_append]
  refine ⟨hG, hE.keys h.idk, fun d hd => ?_, ?_, fun d hd hn m hm => ?_, ?_⟩
  · rw [ek]; rw [e2] at hd; exact List.mem_append.mpr (.inr hd)
  · rw [e2, e1, List.length_append]; unfold keysF; rw [List.length_map]; omega
  · rw [ek] at hd
    rcases List.mem_append.mp hd with hd | hd
    · by_cases w : d ∈ last
      · obtain ⟨k, hk, rfl⟩ := mem_getD w
        obtain ⟨i, hi, rfl⟩ := mem_getD hm
        exact hI k hk i hi
      · exact hE.keys (h.cl d hd w m hm)
    · rw [e2] at hn; exact absurd hd hn
  · rw [e1, List.head?_append, h.hd]; rfl
structure FamOk (ms : List (List Int)) (S : Nat) (r : FW) : Prop where
  good : GoodF ms S r
  idk : idL S ∈ keysF r
  cl : r.length ≤ 60 → ∀ d ∈ keysF r, ∀ m ∈ ms, thenL d m ∈ keysF r
  hd : r.head? = some (idL S, [])
theorem FamR.ok {ms last : List (List Int)} {S : Nat} {f r : FW} (a : FamR ms f last r) (h : LI ms S f last) : FamOk ms S r := by
  induction a with
  | done c =>
    refine ⟨h.good, h.idk, fun hl d hd m hm => ?_, h.hd⟩
    rcases c with rfl | c
    · exact h.cl d hd (fun z => by cases z) m hm
    · omega
  | step _ _ _ ih => exact ih h.pass
def FamL (ms : List (List Int)) (S : Nat) (r : FW) : Prop := FamR ms [(idL S, [])] [idL S] r
theorem FamL.ok {ms : List (List Int)} {S : Nat} {r : FW} (h : FamL ms S r) : FamOk ms S r := FamR.ok h (LI.init ms S)
def Few (ms : List (List Int)) (S : Nat) : Prop := ∃ l : List (List Int), l.length ≤ 60 ∧ ∀ d, Word ms S d → d ∈ l
theorem FamOk.all {ms : List (List Int)} {S : Nat} {r : FW} (h : FamOk ms S r) (hl : r.length ≤ 60) {d : List Int} (hd : Word ms S d) : d ∈ keysF r := by
  induction hd with
  | id => exact h.idk
  | more _ hm ih => exact h.cl hl _ ih _ hm
theorem FamOk.few {ms : List (List Int)} {S : Nat} {r : FW} (h : FamOk ms S r) (hl : r.length ≤ 60) : Few ms S := ⟨keysF r, by unfold keysF; rw [List.length_map]; exact hl, fun _ hd => h.all hl hd⟩
theorem nodup_le : ∀ {l l' : List (List Int)}, l.Nodup → (∀ x ∈ l, x ∈ l') → l.length ≤ l'.length
  | [], _, _, _ => Nat.zero_le _
  | a :: l, l', hn, h => by
    have ha : a ∈ l' := h a (List.mem_cons.mpr (.inl rfl))
    obtain ⟨h1, h2⟩ := List.nodup_cons.mp hn
    have := nodup_le (l := l) (l' := l'.erase a) h2 fun x hx => (List.mem_erase_of_ne (fun e => h1 (by rw [← e]; exact hx))).mpr (h x (List.mem_cons.mpr (.inr hx)))
    rw [List.length_erase_of_mem ha] at this
    have : 0 < l'.length := List.length_pos_of_mem ha
    rw [List.length_cons]; omega
theorem FamOk.le {ms : List (List Int)} {S : Nat} {r : FW} (h : FamOk ms S r) (hf : Few ms S) : r.length ≤ 60 := by
  obtain ⟨l, hl, hw⟩ := hf
  have := nodup_le h.good.nd fun d hd => hw d (h.good.wd d hd)
  unfold keysF at this
  rw [List.length_map] at this
  omega
def WL (f : FW) : Prop := 0 < f.length ∧ ∀ q ∈ f, q.2.length < f.length
theorem fStep_wl {d m : List Int} {fm : FW × List (List Int)} {n : Nat} (h : WL fm.1) : WL (fStep d fm n m).1 := by
  unfold fStep
  split
  · exact h
  · refine ⟨by show 0 < (fm.1 ++ [_]).length; rw [List.length_append]; exact Nat.lt_of_lt_of_le h.1 (Nat.le_add_right _ _), fun q hq => ?_⟩
    have hq' : q ∈ fm.1 ++ [(thenL d m, (wordOf fm.1 d).getD [] ++ [(n : Int)])] := hq
    show q.2.length < (fm.1 ++ [_]).length
    rw [List.length_append]
    rcases List.mem_append.mp hq' with w | w
    · have := h.2 q w
      show _ < _ + 1
      omega
    · rw [List.mem_singleton.mp w]
      show ((wordOf fm.1 d).getD [] ++ [(n : Int)]).length < _ + 1
      rw [List.length_append]
      show _ + 1 < _ + 1
      cases e : wordOf fm.1 d with
      | none =>
        show 0 + 1 < _ + 1
        have := h.1
        omega
      | some v =>
        have := h.2 _ (wordOf_in e)
        show v.length + 1 < _ + 1
        have e2 : v.length < fm.1.length := this
        omega
theorem fRow_wl {ms : List (List Int)} {d : List Int} {fm : FW × List (List Int)} (h : WL fm.1) : ∀ i, WL (fRow ms d i fm).1
  | 0 => h
  | i + 1 => fStep_wl (fRow_wl h i)
theorem fPass_wl {ms last : List (List Int)} {fm : FW × List (List Int)} (h : WL fm.1) : ∀ j, WL (fPass ms last j fm).1
  | 0 => h
  | j + 1 => fRow_wl (fPass_wl h j) _
theorem fPass_grows {ms last : List (List Int)} {f : FW} {j : Nat} (h : (fPass ms last j (f, [])).2 ≠ []) : f.length < (fPass ms last j (f, [])).1.length := by
  obtain ⟨g, e1, e2⟩ := fPass_ex (ms := ms) (last := last) (fm := (f, [])) j
  rw [e1, List.length_append]
  cases g with
  | nil => exact absurd e2 h
  | cons a g => show f.length < f.length + (g.length + 1); omega
end L3

namespace L3
open PySem PySem.Spec PyProof.Rows L2
def KeyB (H : Hp) (y : V) (row : List Int) : Prop := ∃ b, y = .ref b ∧ H b = some (.tup (row.map V.int))
theorem KeyB.board {K : PySem.W.Frag} {H : Hp} {y : V} {row : List Int} (h : KeyB H y row) : BoardAt K H y row := let ⟨b, e, hb⟩ := h; ⟨b, e, SqT.of hb⟩
theorem KeyB.grow {m : List Addr} {H H' : Hp} {y : V} {row : List Int} (h : KeyB H y row) (g : Grow m H H') : KeyB H' y row := let ⟨b, e, hb⟩ := h; ⟨b, e, g.tup _ _ hb⟩
def kI (d : List Int) : List Key := d.map Sum.inl
theorem kI_inj : ∀ {a b : List Int}, kI a = kI b → a = b
  | [], [], _ => rfl
  | [], _ :: _, e => by cases e
  | _ :: _, [], e => by cases e
  | x :: a, y :: b, e => by
    unfold kI at e
    rw [List.map_cons, List.map_cons] at e
    injection e with e1 e2
    rw [Sum.inl.inj e1, kI_inj e2]
theorem kI_kV (d : List Int) : (kI d).map kV = d.map V.int := kv_ints d
def KvF (K : PySem.W.Frag) (H : Hp) : List (List Key × V) → FW → Prop
  | [], [] => True
  | p :: kvs, q :: f => (p.1 = kI q.1 ∧ BoardAt K H p.2 q.2) ∧ KvF K H kvs f
  | _, _ => False
section
variable {K : PySem.W.Frag} {H H' : Hp} {m : List Addr}
theorem KvF.len : ∀ {kvs : List (List Key × V)} {f : FW}, KvF K H kvs f → kvs.length = f.length
  | [], [], _ => rfl
  | _ :: _, _ :: _, h => by rw [List.length_cons, List.length_cons, KvF.len h.2]
  | [], _ :: _, h => h.elim
  | _ :: _, [], h => h.elim
theorem KvF.keys : ∀ {kvs : List (List Key × V)} {f : FW}, KvF K H kvs f → kvs.map (·.1) = (keysF f).map (List.map Sum.inl)
  | [], [], _ => rfl
  | p :: kvs, q :: f, h => by
    show p.1 :: kvs.map (·.1) = q.1.map Sum.inl :: (keysF f).map (List.map Sum.inl)
    rw [KvF.keys h.2, h.1.1]; rfl
  | [], _ :: _, h => h.elim
  | _ :: _, [], h => h.elim
theorem KvF.grow (g : Grow m H H') : ∀ {kvs : List (List Key × V)} {f : FW}, KvF K H kvs f → KvF K H' kvs f
  | [], [], _ => trivial
  | _ :: _, _ :: _, h => ⟨⟨h.1.1, g.board h.1.2⟩, KvF.grow g h.2⟩
  | [], _ :: _, h => h.elim
  | _ :: _, [], h => h.elim
theorem KvF.app : ∀ {kvs : List (List Key × V)} {f : FW} {kvs' : List (List Key × V)} {f' : FW}, KvF K H kvs f → KvF K H kvs' f' → KvF K H (kvs ++ kvs') (f ++ f')
  | [], [], _, _, _, k => k
  | _ :: _, _ :: _, _, _, h, k => ⟨h.1, KvF.app h.2 k⟩
  | [], _ :: _, _, _, h, _ => h.elim
  | _ :: _, [], _, _, h, _ => h.elim
theorem KvF.val (d : List Int) : ∀ {kvs : List (List Key × V)} {f : FW}, KvF K H kvs f → (∃ v w, valV kvs (kI d) = some v ∧ wordOf f d = some w ∧ BoardAt K H v w) ∨ (valV kvs (kI d) = none ∧ wordOf f d = none)
  | [], [], _ => .inr ⟨rfl, rfl⟩
  | p :: kvs, q :: f, h => by
    by_cases e : q.1 = d
    · exact .inl ⟨p.2, q.2, valV_pos (by rw [h.1.1, e]), by simp [wordOf, List.find?_cons, e], h.1.2⟩
    · have e' : ¬ p.1 = kI d := fun z => e (kI_inj (h.1.1.symm.trans z))
      have ew : wordOf (q :: f) d = wordOf f d := by simp [wordOf, List.find?_cons, e]
      rw [valV_neg e', ew]
      exact KvF.val d h.2
  | [], _ :: _, h => h.elim
  | _ :: _, [], h => h.elim
end
theorem Mks.take {ms : List (List Int)} {S n : Nat} (h : Mks ms S) : Mks (ms.take n) S := fun m hm => h m (List.mem_of_mem_take hm)
def FamW (K : PySem.W.Frag) (H : Hp) (y : V) (f : FW) : Prop := ∃ l kvs, y = .ref l ∧ H l = some (.dT kvs) ∧ KvF K H kvs f
theorem FamW.d {K : PySem.W.Frag} {H : Hp} {y : V} {f : FW} (h : FamW K H y f) : FamD H y (keysF f) := let ⟨l, kvs, e, hl, hk⟩ := h; ⟨l, kvs, e, hl, hk.keys⟩
theorem Grow.setDT {m : List Addr} {H : Hp} {p : Addr} {xs : List (List Key × V)} (h : H p = some (.dT xs)) (hm : p ∈ m) (ys : List (List Key × V)) : Grow m H (upd H p (.dT ys)) :=
  ⟨fun b u hb q => by rw [upd_ne (show b ≠ p from fun z => hb (by rw [z]; exact hm))]; exact q, fun b zs q => by rw [upd_ne (fun z => by subst z; rw [h] at q; cases q)]; exact q, fun b u v q => by rw [upd_ne (fun z => by subst z; rw [h] at q; cases q)]; exact q⟩
theorem Room.u1F {k : Nat} {A : Around} (r : Room k A) : A.units + 1 < cLine := by have := r.un; omega
def sp_thenF (K : PySem.W.Frag) : Sp := sp2 fun x y H Q => ∃ (S : Nat) (a b : List Int), BoardAt K H x a ∧ BoardAt K H y b ∧ Rng S a ∧ b.length = S ∧ a.length ≤ 5 ∧ ∀ y H', Grow [] H H' → KeyB H' y (thenL a b) → Q y H'
theorem idL_V (S : Nat) : ((List.range S).map fun i : Nat => V.int i) = (idL S).map V.int := by
  unfold idL; rw [List.map_map]; rfl
end L3

namespace L3
open PySem PySem.Spec PyProof.Rows L2
section
variable {c : TT} {e : TE} {i : Nat} {v v' : V} {t u r : TS} {D : Ends} {σ : L2.St} {H : Hp} {rt : VK} {bk ct : L2.St → Hp → Prop}
theorem c_name (h : t D (σ.set i (some v)) H) : gName i v σ H ({ nx := t D, rt := rt, bk := bk, ct := ct } : Ends).nx := h
theorem c_asg (Good : V → Hp → Prop) (hc : ∀ K : VK, (∀ v H', Good v H' → K v H') → e σ H K) (hr : ∀ v H', Good v H' → t D (σ.set i (some v)) H') : tSeq (tAsg e (gName i)) t D σ H := hc _ fun v H' g => hr v H' g
theorem c_next (h : t D σ H) : tNext ({ nx := t D, rt := rt, bk := bk, ct := ct } : Ends) σ H := h
theorem c_nx (h : t D σ H) : ({ nx := t D, rt := rt, bk := bk, ct := ct } : Ends).nx σ H := h
theorem c_test (Good : Bool → Hp → Prop) (hc : ∀ K : Bool → Hp → Prop, (∀ b H', Good b H' → K b H') → c σ H K) (hr : ∀ b H', Good b H' → if b = true then t { D with nx := r D } σ H' else u { D with nx := r D } σ H') : tSeq (tIfS c t u) r D σ H := hc _ hr
end
end L3

namespace L3
open PySem PySem.Spec PyProof.Rows L2
def misH (ds tab : List (List Int)) (i j : Nat) : Prop := ds.getD (cellT tab i j).toNat [] ≠ thenL (ds.getD i []) (ds.getD j [])
def FirstH (R : Nat) (ds tab : List (List Int)) (i j : Nat) : Prop := (i < R ∧ j < R) ∧ misH ds tab i j ∧ ∀ i' j' : Nat, i' < R → j' < R → (i' < i ∨ (i' = i ∧ j' < j)) → ¬ misH ds tab i' j'
theorem FirstH.eq {R : Nat} {ds tab : List (List Int)} {i j i' j' : Nat} (a : FirstH R ds tab i j) (b : FirstH R ds tab i' j') : i = i' ∧ j = j' := by
  have h1 : ¬ (i' < i ∨ (i' = i ∧ j' < j)) := fun z => a.2.2 i' j' b.1.1 b.1.2 z b.2.1
  have h2 : ¬ (i < i' ∨ (i = i' ∧ j < j')) := fun z => b.2.2 i j a.1.1 a.1.2 z a.2.1
  omega
def HldAt (K : PySem.W.Frag) (H : Hp) (R : Nat) (ds tab : List (List Int)) (y : V) : Prop :=
  (y = .non ∧ ∀ i j : Nat, i < R → j < R → ¬ misH ds tab i j) ∨ ∃ i j : Nat, FirstH R ds tab i j ∧ BoardAt K H y [(i : Int), (j : Int)]
structure DT (K : PySem.W.Frag) (H : Hp) (R M : Nat) (ds tab : List (List Int)) (x y : V) : Prop where
  hx : RowsAt K H x ds
  hy : RowsAt K H y tab
  r1 : 1 ≤ R
  r60 : R ≤ 60
  m1 : 1 ≤ M
  m5 : M ≤ 5
  hD : TabOk R M ds
  hT : TabOk R R tab
theorem DT.grow {K : PySem.W.Frag} {m : List Addr} {H H' : Hp} {R M : Nat} {ds tab : List (List Int)} {x y : V} (h : DT K H R M ds tab x y) (g : Grow m H H') : DT K H' R M ds tab x y :=
  ⟨g.rows h.hx, g.rows h.hy, h.r1, h.r60, h.m1, h.m5, h.hD, h.hT⟩
def hldD : Option (Nat × Nat) → PyData
  | none => .none
  | some t => intsD [(t.1 : Int), (t.2 : Int)]
def HldO (R : Nat) (ds tab : List (List Int)) : Option (Nat × Nat) → Prop
  | none => ∀ i j : Nat, i < R → j < R → ¬ misH ds tab i j
  | some t => FirstH R ds tab t.1 t.2
theorem HldO.eq {R : Nat} {ds tab : List (List Int)} {o o' : Option (Nat × Nat)} (a : HldO R ds tab o) (b : HldO R ds tab o') : o = o' := by
  cases o with
  | none => cases o' with
    | none => rfl
    | some t => exact absurd b.2.1 (a _ _ b.1.1 b.1.2)
  | some t => cases o' with
    | none => exact absurd a.2.1 (b _ _ a.1.1 a.1.2)
    | some t' =>
      obtain ⟨i, j⟩ := t
      obtain ⟨i', j'⟩ := t'
      obtain ⟨e1, e2⟩ := FirstH.eq a b
      rw [show i = i' from e1, show j = j' from e2]
theorem HldAt.o {K : PySem.W.Frag} {H : Hp} {R : Nat} {ds tab : List (List Int)} {y : V} (h : HldAt K H R ds tab y) : ∃ o, HldO R ds tab o ∧ Dat K H y (hldD o) ∧ ((o = none ∧ y = .non) ∨ ∃ a, y = .ref a) := by
  rcases h with ⟨rfl, h⟩ | ⟨i, j, h, hb⟩
  · exact ⟨none, h, .non, .inl ⟨rfl, rfl⟩⟩
  · exact ⟨some (i, j), h, hb.dat, .inr (let ⟨a, e, _⟩ := hb; ⟨a, e⟩)⟩
theorem HldAt.grow {K : PySem.W.Frag} {m : List Addr} {H H' : Hp} {R : Nat} {ds tab : List (List Int)} {y : V} (h : HldAt K H R ds tab y) (g : Grow m H H') : HldAt K H' R ds tab y := by
  rcases h with h | ⟨i, j, h, hb⟩
  · exact .inl h
  · exact .inr ⟨i, j, h, g.board hb⟩
section
variable {X : Cx} {K : PySem.W.Frag}
end
theorem FamOk.closed {ms : List (List Int)} {S : Nat} {r : FW} (h : FamOk ms S r) (hM : Mks ms S) (hl : r.length ≤ 60) {a b : List Int} (ha : a ∈ keysF r) (hb : b ∈ keysF r) : thenL a b ∈ keysF r :=
  h.all hl ((h.good.wd a ha).mul hM (h.good.wd b hb))
structure SomeAt (K : PySem.W.Frag) (H : Hp) (p lf : Addr) (S : Nat) (rows : List (List Int)) : Prop where
  l : ∃ zs, H lf = some (.lst zs) ∧ AllR (BoardAt K H) zs rows
  np : lf ∉ [p]
  r1 : 1 ≤ rows.length
  r60 : rows.length ≤ 60
  ok : Mks rows S
  cl : ∀ a ∈ rows, ∀ b ∈ rows, thenL a b ∈ rows
theorem SomeAt.of {K : PySem.W.Frag} {H : Hp} {p lf : Addr} {S : Nat} {rows ms : List (List Int)} {zs : List V} {f : FW} (hF : FamL ms S f) (hM : Mks ms S) (hf : Few ms S) (hl : H lf = some (.lst zs)) (np : lf ∉ [p]) (hz : AllR (BoardAt K H) zs rows) (pm : rows.Perm (keysF f)) : SomeAt K H p lf S rows := by
  have hO := hF.ok
  have h60 := hO.le hf
  have lk : rows.length = f.length := by rw [pm.length_eq]; unfold keysF; rw [List.length_map]
  refine ⟨⟨zs, hl, hz⟩, np, ?_, by omega, fun d hd => (hO.good.wd d (pm.mem_iff.mp hd)).dd hM, fun a ha b hb => pm.mem_iff.mpr (hO.closed hM h60 (pm.mem_iff.mp ha) (pm.mem_iff.mp hb))⟩
  have : 0 < rows.length := List.length_pos_of_mem (pm.mem_iff.mpr hO.idk)
  omega
def AskedH (K : PySem.W.Frag) (H : Hp) (z : V) : Prop := ∃ t y1 y2 y3 R M ds tab, z = .ref t ∧ SqT K H t [y1, y2, y3] ∧ DT K H R M ds tab y1 y2 ∧ HldAt K H R ds tab y3
theorem AskedH.grow {K : PySem.W.Frag} {m : List Addr} {H H' : Hp} {z : V} (h : AskedH K H z) (g : Grow m H H') : AskedH K H' z := by
  obtain ⟨t, y1, y2, y3, R, M, ds, tab, e, h1, h2, h3⟩ := h
  exact ⟨t, y1, y2, y3, R, M, ds, tab, e, g.sqT h1, h2.grow g, h3.grow g⟩
theorem getRow' {K : PySem.W.Frag} {H : Hp} {xs : List V} {rows : List (List Int)} (h : AllR (BoardAt K H) xs rows) {i : Nat} (h1 : i < rows.length) : ∃ a, atI xs (i : Int) = some (V.ref a) ∧ SqT K H a ((rows.getD i []).map V.int) := by
  have := getRow h (i := (i : Int)) (Int.natCast_nonneg i) (by omega)
  rw [Int.toNat_natCast] at this
  exact this
end L3

namespace L3
open PySem PySem.Spec PyProof.Rows L2
section
variable {prog : Program} {w : World} {A : Around} {R : Result → Shared → Prop} {s : Shared}
theorem comp_loopD {kx vx target iter : Expr} {ifs : List Expr} {scope : Scope} {pos : Pos} {it : Value} {D : Addr} {env : Env} (I : Nat → Shared → Prop)
    (turn : ∀ n s, I n s → wpAny (model prog w) A (pyNext it) (fun r s₁ => match r with
      | none => R (.ok .next) s₁
      | some v => wpAny (model prog w) A (letOwnedTupleGo target it v) (fun _ s₂ => wpAny (model prog w) A (assign target env v) (fun _ s₃ =>
          wpAny (model prog w) A (forIn ifs true fun c r => if r = true then do let ok ← isTrue c env (eval c env); pure (ForInStep.yield ok) else pure (ForInStep.yield r)) (fun ok s₄ =>
            if ok = true then wpAny (model prog w) A (eval kx env) (fun kv s₅ => wpAny (model prog w) A (eval vx env) (fun vv s₆ =>
              wpAny (model prog w) A (dictSet D kv vv) (fun _ s₇ => ∃ m, m < n ∧ I m s₇) (fun _ _ => False) s₆) (fun _ _ => False) s₅) (fun _ _ => False) s₄
            else ∃ m, m < n ∧ I m s₄) (fun _ _ => False) s₃) (fun _ _ => False) s₂) (fun _ _ => False) s₁) (fun _ _ => False) s)
    (n : Nat) (h : I n s) :
    codeAny (model prog w) A (.compLoop (.DictComp kx vx [⟨target, iter, ifs, 0⟩] scope pos) 0 it (.ref D) env) R s := by
  refine codeAny_loop rfl I (fun n s hI => ?_) n h
  show wpAny _ A ((compTurn (.DictComp kx vx [⟨target, iter, ifs, 0⟩] scope pos) 0 it (.ref D) env).onRaise (fun x => do noteFrame x env; theTreesLotGoes x)) _ _ s
  refine wpAny_noted ?_
  rw [compTurn_dict]
  have no : ∀ (E : Value → Shared → Prop) (e : Value) (s : Shared), (fun (_ : Value) (_ : Shared) => False) e s → E e s := fun _ _ _ f => f.elim
  refine wpAny_bind (wpAny_standAt (wpAny_bind (wpAny_mono (turn n s hI) (fun r s₁ h₁ => ?_) (no _))))
  cases r with
  | none => exact wpAny_pure h₁
  | some v =>
    refine wpAny_bind (wpAny_mono h₁ (fun _ s₂ h₂ => ?_) (no _))
    refine wpAny_bind (wpAny_mono h₂ (fun _ s₃ h₃ => wpAny_bind (wpAny_mono h₃ (fun ok s₄ h₄ => ?_) (no _))) (no _))
    cases ok with
    | false => exact wpAny_pure ⟨rfl, h₄⟩
    | true =>
      exact wpAny_bind (wpAny_bind (wpAny_mono h₄ (fun kv s₅ h₅ => wpAny_bind (wpAny_holding (wpAny_mono h₅ (fun vv s₆ h₆ => wpAny_bind (wpAny_standAt (wpAny_holding (wpAny_mono h₆ (fun _ s₇ h₇ => wpAny_pure ⟨rfl, h₇⟩) (no _))))) (no _)))) (no _)))
end
def DRaw (prog : Program) (w : World) (Hb : Hp) (h : Heap) (D : Addr) (o : Obj) (kvs : List (List Key × V)) : Prop :=
  kvs.length ≤ sizeLine ∧ (D == sysModules) = false ∧ ∃ xs : List (List Key × Addr × Value), KT Hb kvs xs ∧ ∃ es ep, h.get? D = some o ∧ o.ExactDict ∧ o.data = .dict es ep ∧ es.toList = xs.map (entryOfKey (tupleKind (mixKind prog w))) ∧ (xs.map (·.1)).Nodup
theorem DRaw.at {prog : Program} {w : World} {Hb : Hp} {h h' : Heap} {D : Addr} {o : Obj} {kvs : List (List Key × V)} (r : DRaw prog w Hb h D o kvs) (e : h'.get? D = some o) : DRaw prog w Hb h' D o kvs :=
  let ⟨z, y, xs, k, es, ep, _, h2, h3, h4, h5⟩ := r; ⟨z, y, xs, k, es, ep, e, h2, h3, h4, h5⟩
theorem DRaw.obj {prog : Program} {w : World} {Hb H' : Hp} {h : Heap} {D : Addr} {o : Obj} {kvs : List (List Key × V)} (r : DRaw prog w Hb h D o kvs) (hk : ∀ b xs, Hb b = some (.tup xs) → H' b = some (.tup xs)) : ObjOk prog w H' h D (.dT kvs) :=
  let ⟨z, y, xs, k, es, ep, h1, h2, h3, h4, h5⟩ := r; ⟨z, y, xs, k.keeps hk, o, es, ep, h1, h2, h3, h4, h5⟩
theorem DRaw.nocell {prog : Program} {w : World} {Hb : Hp} {h : Heap} {D : Addr} {o : Obj} {kvs : List (List Key × V)} (r : DRaw prog w Hb h D o kvs) (v : Option Value) : o.data ≠ .cell v := by
  obtain ⟨_, _, _, _, es, ep, _, _, h3, _⟩ := r
  rw [h3]; intro z; cases z
def CompWD (J : It) (σ0 : L2.St) (H1 : Hp) (g : TG) (tt : TT) (tk tv : TE) (Q : VK) : Prop :=
  ∃ W : Nat → Nat → List (List Key × V) → L2.St → Hp → Prop, (∃ m, W 0 m [] σ0 H1) ∧ ∀ i m kvs σ' H', W i m kvs σ' H' →
    (J.stop i H' ∧ ∀ l, H' l = none → Q (.ref l) (upd H' l (.dT kvs))) ∨
    (J.go i H' ∧ ∃ Nn : List (List Key × V) → L2.St → Hp → Prop, (∀ zs σ2 H2, Nn zs σ2 H2 → ∃ m', m' < m ∧ W (i + 1) m' zs σ2 H2) ∧
      ∀ x H2, J.yld i H' x H2 → g x σ' H2 fun σ2 H3 => tt σ2 H3 fun b H4 => if b = true then tk σ2 H4 fun y H5 => tv σ2 H5 fun v H6 => kvs.length < sizeLine ∧ ∃ b ks, y = .ref b ∧ H1 b = some (.tup (ks.map kV)) ∧ Nn (putK kvs ks v) σ2 H6 else Nn kvs σ2 H4)
def tCompD (wi : TI) (sub : List (Option Nat)) (g : TG) (tt : TT) (tk tv : TE) : TE := fun σ H Q => wi σ H fun J H1 => CompWD J (capt sub σ) H1 g tt tk tv Q
section
variable {X : Cx} {pins : List (Addr × Obj)} {σ : L2.St} {H2 : Hp} {s₂ : Shared} {it : Addr} {fp : List Addr} {tn : Nat → Heap → Prop} {J : It} {scope : Scope} {cl : List (Str × Addr)} {N' : List Str} {sub : List (Option Nat)}
theorem comp_finD {C D : Addr} {s₀ : Shared} {s' : Shared} {σ' : L2.St} {H' : Hp} {kvs : List (List Key × V)} {o oC : Obj} (I : Inv X pins σ H2 s₂)
    (hs₀ : ∀ b o, s₂.heap.get? b = some o → s₀.heap.get? b = some o) (hos : s₀.os = s₂.os) (hD : s₂.heap.objs.size ≤ D) (hC : s₂.heap.objs.size ≤ C) (hDC : D ≠ C) (f2 : ∀ b ∈ fp, FpOk X pins H2 b)
    (I' : Inv (cxC X N' scope cl C D fp s₀ H2) pins σ' H' s') (hn : H' D = none) (rv : DRaw X.prog X.w H2 s'.heap D o kvs)
    (ho : s'.heap.get? C = some oC) (hd : ∀ v, oC.data ≠ .cell v) : Inv X (pins ++ [(C, oC)]) σ (upd H' D (.dT kvs)) s' ∧ FpOk X pins (upd H' D (.dT kvs)) C := by
  have neD : ∀ b o, s₂.heap.get? b = some o → b ≠ D := fun b o e => Nat.ne_of_lt (Nat.lt_of_lt_of_le (Heap.lt_size e) hD)
  have nm : ∀ b o, s₂.heap.get? b = some o → b ∉ fp → b ∉ D :: fp := fun b o e h z => (List.mem_cons.mp z).elim (neD b o e) h
  have U := I'.base
  have HC : upd H' D (.dT kvs) C = none := by rw [upd_ne (Ne.symm hDC)]; exact I'.free
  have fpc : FpOk X pins (upd H' D (.dT kvs)) C := I.fpOk hC HC
  have tp : ∀ b xs, H2 b = some (.tup xs) → upd H' D (.dT kvs) b = some (.tup xs) := fun b xs e => by have z := U.tups b xs e; rw [upd_ne (ne_of_none z hn)]; exact z
  have un : Un (frs X.stack) fp H2 (upd H' D (.dT kvs)) s₂.heap s'.heap :=
    { keep := fun b o e n h1 h2 => U.keep b o (hs₀ b o e) n h1 (nm b o e h2)
      slot := fun b o e n h1 h2 => U.slot b o (hs₀ b o e) n h1 (nm b o e h2)
      free := fun b o e n h2 => by rw [upd_ne (neD b o e)]; exact U.free b o (hs₀ b o e) n (nm b o e h2)
      there := fun b o e h2 => U.there b o (hs₀ b o e) (nm b o e h2)
      tups := tp
      frzs := fun b o u e => by have z := U.frzs b o u e; rw [upd_ne (ne_of_none z hn)]; exact z
      tbls := fun b ps e => by obtain ⟨more, z⟩ := U.tbls b ps e; exact ⟨more, by rw [upd_ne (ne_of_none z hn)]; exact z⟩ }
  have hok : HOk X.prog X.w (upd H' D (.dT kvs)) s'.heap := HOk.track I'.hok hn (rv.obj tp)
  have IX : Inv X pins σ (upd H' D (.dT kvs)) s' := I.call' (I'.os.trans hos) un hok I'.bare fun b hb => ⟨(f2 b hb).2.2.2.1, (f2 b hb).2.1, (f2 b hb).2.2.2.2.1, (f2 b hb).2.2.2.2.2⟩
  refine ⟨IX.pins_of fun p hp => ?_, fpc⟩
  rcases List.mem_append.mp hp with hp | hp
  · exact IX.pin p (List.mem_append_right _ hp)
  · rw [List.mem_singleton.mp hp]
    exact ⟨ho, HC, fpc.2.1, fpc.2.2.1, hd⟩
theorem comp_runD {C D : Addr} {s₀ : Shared} {tg : Expr} {pos : Pos} {kx vx iter : Expr} {ifs : List Expr} {g : TG} {tt : TT} {tk tv : TE} {Q : VK} {RR : Value → Addr → Result → Shared → Prop} {W : Nat → Nat → List (List Key × V) → L2.St → Hp → Prop}
    (hu : X.A.units + 1 < cLine) (I : Inv X pins σ H2 s₂) (hcalm : X.calm = true) (T : Turn X.prog X.w X.K tg J fp it tn) (f2 : ∀ b ∈ fp, FpOk X pins H2 b) (hfp : ∀ b ∈ fp, b < s₂.heap.objs.size)
    (hs₀ : ∀ b o, s₂.heap.get? b = some o → s₀.heap.get? b = some o) (hos : s₀.os = s₂.os) (hD : s₂.heap.objs.size ≤ D) (hC : s₂.heap.objs.size ≤ C) (hDC : D ≠ C)
    (hcl1 : ∀ x c, cl.lookup x = some c → X.env.cells.lookup x = some c)
    (hg : PG (cxC X N' scope cl C D fp s₀ H2) tg g) (ht : PIfs (cxC X N' scope cl C D fp s₀ H2) ifs tt) (hk : PE (cxC X N' scope cl C D fp s₀ H2) kx tk) (he : PE (cxC X N' scope cl C D fp s₀ H2) vx tv)
    (turn : ∀ i m kvs σ' H', W i m kvs σ' H' →
      (J.stop i H' ∧ ∀ l, H' l = none → Q (.ref l) (upd H' l (.dT kvs))) ∨
      (J.go i H' ∧ ∃ Nn : List (List Key × V) → L2.St → Hp → Prop, (∀ zs σ2 H2, Nn zs σ2 H2 → ∃ m', m' < m ∧ W (i + 1) m' zs σ2 H2) ∧
        ∀ x H3, J.yld i H' x H3 → g x σ' H3 fun σ2 H3 => tt σ2 H3 fun b H4 => if b = true then tk σ2 H4 fun y H5 => tv σ2 H5 fun v H6 => kvs.length < sizeLine ∧ ∃ b ks, y = .ref b ∧ H2 b = some (.tup (ks.map kV)) ∧ Nn (putK kvs ks v) σ2 H6 else Nn kvs σ2 H4))
    (hRR : ∀ (D C : Addr) (oC : Obj) (m : Str → Option Value) (s' : Shared) (Hf : Hp), Inv X (pins ++ [(C, oC)]) σ Hf s' → s'.heap.Ns C m → FpOk X pins Hf C → Q (.ref D) Hf → RR (.ref D) C (.ok .next) s')
    (n : Nat) (s : Shared) (h : ∃ i kvs o σ' H', Inv (cxC X N' scope cl C D fp s₀ H2) pins σ' H' s ∧ tn i s.heap ∧ (∀ b ∈ fp, H' b = none) ∧ H' D = none ∧
      DRaw X.prog X.w H2 s.heap D o kvs ∧ W i n kvs σ' H') :
    codeAny (model X.prog X.w) X.A (.compLoop (.DictComp kx vx [⟨tg, iter, ifs, 0⟩] scope pos) 0 (.ref it) (.ref D) (compEnvC scope cl C X.env)) (RR (.ref D) C) s := by
  have frsz : ∀ b ∈ frs X.stack, b < s₂.heap.objs.size := fun b hb => by
    rcases List.mem_cons.mp (I.stkSub b hb) with z | z
    · rw [z]; exact I.lt
    · exact Nat.lt_of_not_le fun q => I.nofs q z
  have cells : ∀ x c, cl.lookup x = some c → c < s₂.heap.objs.size := fun x c e => let ⟨v, q⟩ := I.cell x c (hcl1 x c e); q.lt
  have pinsz : ∀ p ∈ X.pn ++ pins, p.1 < s₂.heap.objs.size := fun p hp => Heap.lt_size (I.pin p hp).1
  refine comp_loopD (fun n s => ∃ i kvs o σ' H', Inv (cxC X N' scope cl C D fp s₀ H2) pins σ' H' s ∧ tn i s.heap ∧ (∀ b ∈ fp, H' b = none) ∧ H' D = none ∧
      DRaw X.prog X.w H2 s.heap D o kvs ∧ W i n kvs σ' H') ?_ n h
  rintro n s ⟨i, kvs, o, σ', H', I', st', fr, hn, rv, w'⟩
  have hy : s.heap.get? D = some o := let ⟨_, _, _, _, _, _, e, _⟩ := rv; e
  have pD : Inv (cxC X N' scope cl C D fp s₀ H2) (pins ++ [(D, o)]) σ' H' s := I'.pins_of fun p hp => by
    rcases List.mem_append.mp hp with hp | hp
    · exact I'.pin p (List.mem_append_right _ hp)
    · rw [List.mem_singleton.mp hp]
      exact ⟨hy, hn, hDC, fun z => absurd (Nat.lt_of_lt_of_le (frsz _ z) hD) (Nat.lt_irrefl _), rv.nocell⟩
  have fpok : ∀ {H'' : Hp}, (∀ b ∈ fp, H'' b = none) → ∀ b ∈ fp, FpOk (cxC X N' scope cl C D fp s₀ H2) (pins ++ [(D, o)]) H'' b := fun hz b hb => by
    refine ⟨hz b hb, Nat.ne_of_lt (Nat.lt_of_lt_of_le (hfp b hb) hC), fun z => ?_, .inl (List.mem_cons_of_mem _ hb), fun x c e => (f2 b hb).2.2.2.2.1 x c (hcl1 x c e), fun p hp => ?_⟩
    · rcases List.mem_cons.mp (I.stkSub b z) with z | z
      · exact (f2 b hb).2.1 z
      · exact (f2 b hb).2.2.1 z
    · rcases List.mem_append.mp hp with hp | hp
      · exact (f2 b hb).2.2.2.2.2 p (List.mem_append_left _ hp)
      · rcases List.mem_append.mp hp with hp | hp
        · exact (f2 b hb).2.2.2.2.2 p (List.mem_append_right _ hp)
        · rw [List.mem_singleton.mp hp]
          exact Nat.ne_of_gt (Nat.lt_of_lt_of_le (hfp b hb) hD)
  rcases turn i n kvs σ' H' w' with ⟨stop, q⟩ | ⟨go, Nn, hN, step⟩
  · refine thn (T.done (cxC X N' scope cl C D fp s₀ H2) rfl rfl rfl hcalm i _ s σ' H' (fun _ _ => False) pD (fpok fr) st' stop) fun r s1 ⟨hr, I1⟩ => ?_
    subst hr
    have hy1 := (I1.pin (D, o) (by simp)).1
    obtain ⟨m, hm, _⟩ := I1.loc
    obtain ⟨oC, es, ep, hoC, hdC, _⟩ := id hm
    obtain ⟨IX, fpc⟩ := comp_finD I hs₀ hos hD hC hDC f2 I1.unpinned hn (rv.at hy1) hoC (by intro v z; rw [hdC] at z; cases z)
    exact hRR D C oC m s1 _ IX hm fpc (q D hn)
  · refine thn (T.item (cxC X N' scope cl C D fp s₀ H2) rfl rfl rfl hcalm i _ s σ' H' (fun _ _ => False) pD (fpok fr) st' go) fun r s1 ⟨u, hr, h4⟩ => ?_
    subst hr
    refine thn h4 fun _ s2 ⟨x5, H5, I5, r5, y5, st5, fr5⟩ => ?_
    have I5' := I5.pinned (fpok fr5) (T.obj _ _ st5)
    refine thn (hg _ s2 σ' H5 x5 u _ I5' r5 (step x5 H5 y5)) fun _ s3 ⟨σ6, H6, I6, q6⟩ => ?_
    refine thn (ht _ s3 σ6 H6 _ I6 q6) fun ok s4 ⟨H7, I7, q7⟩ => ?_
    have stay : ∀ {σ7 : L2.St} {H7 : Hp} {s7 : Shared}, Inv (cxC X N' scope cl C D fp s₀ H2) (pins ++ [(D, o)] ++ pinsAt fp s2.heap) σ7 H7 s7 →
        (∀ b ∈ fp, ∀ o, s2.heap.get? b = some o → s7.heap.get? b = some o) ∧ (∀ b ∈ fp, H7 b = none) ∧ H7 D = none ∧ s7.heap.get? D = some o := fun {σ7 H7 s7} I7 => by
      have d := I7.pin (D, o) (by simp)
      refine ⟨fun b hb o e => (I7.pin (b, o) (List.mem_append_right _ (List.mem_append_right _ (mem_pinsAt hb e)))).1, fun b hb => ?_, d.2.1, d.1⟩
      obtain ⟨o, e, _⟩ := T.obj _ _ st5 b hb
      exact (I7.pin (b, o) (List.mem_append_right _ (List.mem_append_right _ (mem_pinsAt hb e)))).2.1
    cases ok with
    | false =>
      rw [if_neg (by decide)] at q7 ⊢
      obtain ⟨k1, k2, k3, k4⟩ := stay I7
      obtain ⟨m', hm, w7⟩ := hN kvs σ6 H7 q7
      exact ⟨m', hm, i + 1, kvs, o, σ6, H7, I7.unpinned.unpinned, T.keep _ _ _ st5 k1, k2, k3, rv.at k4, w7⟩
    | true =>
      rw [if_pos rfl] at q7 ⊢
      refine thn (hk _ s4 σ6 H7 _ I7 q7) fun kv s5 ⟨y, H8, I8, ry, q8⟩ => ?_
      refine thn (he _ s5 σ6 H8 _ I8 q8) fun vv s6 ⟨v, H9, I9, r9, hl9, b, ks, ey, eb, n9⟩ => ?_
      subst ey
      cases (show kv = Value.ref b from ry)
      obtain ⟨k1, k2, k3, k4⟩ := stay I9
      have tp : ∀ b xs, H2 b = some (.tup xs) → H9 b = some (.tup xs) := I9.base.tups
      obtain ⟨z, hd, xs, rel, es, ep, h1, h2, h3, h4', h5⟩ := rv.at k4
      have dd : s6.heap.DictOfH (tupleKind (mixKind X.prog X.w)) D xs := by
        refine ⟨o, es, ep, h1, h2, h3, h4', fun x hx => ?_, h5⟩
        have all : ∀ {l : List (List Key × V)} {m : List (List Key × Addr × Value)}, KT H2 l m → ∀ x ∈ m, (tupleKind (mixKind X.prog X.w)).is s6.heap x.1 x.2.1 := by
          intro l m q
          induction q with
          | nil => intro x hx; exact nomatch hx
          | @cons p q ps qs hq t ih =>
            intro x hx
            rcases List.mem_cons.mp hx with e | hx
            · subst e
              exact key_of I9.hok (by rw [← hq.1]; exact tp _ _ hq.2.1)
            · exact ih x hx
        exact all rel x hx
      have xl : xs.length ≤ sizeLine := by rw [← Paired.length rel]; exact z
      refine wpAny_dictSet_heap (hsz := xl) (show (tupleKind (mixKind X.prog X.w)).room X.A from Nat.lt_of_succ_lt hu) (key_of I9.hok (tp _ _ eb)) dd fun h' dd' sb => ?_
      obtain ⟨o', es', ep', hq1, hq2, hq3, hq4, _, hq5⟩ := dd'
      obtain ⟨m', hm, w9⟩ := hN _ σ6 H9 n9
      have pl := length_putK kvs ks v
      refine ⟨m', hm, i + 1, putK kvs ks v, o', σ6, H9, ?_, T.keep _ _ _ (T.keep _ _ _ st5 k1) fun b hb o e => sb.extBut b o (Nat.ne_of_lt (Nat.lt_of_lt_of_le (hfp b hb) hD)) e, k2, k3, ⟨by omega, hd, _, rel.put ks eb r9, es', ep', hq1, hq2, hq3, hq4, hq5⟩, w9⟩
      exact (I9.unpinned.unpinned).turned (it := D) (t' := _) (h' := h') (fun b o hb e => sb.extBut b o hb e) k3 hDC (.inl (by simp)) (fun x c e => Nat.ne_of_lt (Nat.lt_of_lt_of_le (cells x c e) hD)) (fun p hp => Nat.ne_of_lt (Nat.lt_of_lt_of_le (pinsz p hp) hD))
theorem comp_blockD {tg : Expr} {pos : Pos} {kx vx iter : Expr} {ifs : List Expr} {g : TG} {tt : TT} {tk tv : TE} {E : Value → Shared → Prop} {Q : VK} {RR : Value → Addr → Result → Shared → Prop}
    (hu : X.A.units + 1 < cLine) (I : Inv X pins σ H2 s₂) (hcalm : X.calm = true) (T : Turn X.prog X.w X.K tg J fp it tn) (st : tn 0 s₂.heap) (f2 : ∀ b ∈ fp, FpOk X pins H2 b)
    (S : CSc X scope N' sub) (hcl1 : ∀ x c, cl.lookup x = some c → X.env.cells.lookup x = some c) (hcl2 : ∀ y ∈ scope.names, y.2 = .free → ∃ c, cl.lookup y.1 = some c)
    (hg : ∀ C D fp s H, PG (cxC X N' scope cl C D fp s H) tg g) (ht : ∀ C D fp s H, PIfs (cxC X N' scope cl C D fp s H) ifs tt) (hk : ∀ C D fp s H, PE (cxC X N' scope cl C D fp s H) kx tk) (he : ∀ C D fp s H, PE (cxC X N' scope cl C D fp s H) vx tv)
    (hW : CompWD J (capt sub σ) H2 g tt tk tv Q)
    (hRR : ∀ (D C : Addr) (oC : Obj) (m : Str → Option Value) (s' : Shared) (Hf : Hp), Inv X (pins ++ [(C, oC)]) σ Hf s' → s'.heap.Ns C m → FpOk X pins Hf C → Q (.ref D) Hf → RR (.ref D) C (.ok .next) s') :
    wpAny (model X.prog X.w) X.A newDict (fun acc s₃ => wpAny (model X.prog X.w) X.A (newFunctionEnv scope X.env.globals cl [] X.env.qual none .none (some X.env)) (fun cenv s₄ =>
      codeAny (model X.prog X.w) X.A (.compStart (.DictComp kx vx [⟨tg, iter, ifs, 0⟩] scope pos) 0 (.ref it) acc { cenv with scope := relabel scope X.env }) (RR acc cenv.locals) s₄) E s₃) E s₂ := by
  obtain ⟨W, ⟨m0, w0⟩, turn⟩ := hW
  refine wpAny_newObj_type (wpAny_newFunctionEnv S.nocell (by intro y hy; simp at hy) (fun h₁ hns₁ hsb₁ => ?_) S.kind)
  dsimp only at hns₁ hsb₁ ⊢
  have hC : (s₂.heap.push { cls := .type "dict", dict := none, data := .dict #[] }).objs.size = s₂.heap.objs.size + 1 := Heap.size_push ..
  rw [hC] at hns₁ hsb₁ ⊢
  have hk1 : ∀ b o, (s₂.heap.push { cls := .type "dict", dict := none, data := .dict #[] }).get? b = some o → h₁.get? b = some o := fun b o e =>
    hsb₁.extBut b o (by have := Heap.lt_size e; rw [hC] at this; exact Nat.ne_of_lt this) (Heap.get?_push_of_some _ e)
  have hfp : ∀ b ∈ fp, b < s₂.heap.objs.size := fun b hb => by
    obtain ⟨o, e, _⟩ := T.obj _ _ st b hb
    exact Heap.lt_size e
  have I0 := comp_start (tk := s₂.toks + ([] : List (Str × Value)).length) I S hcl1 hcl2 f2 hfp hns₁ hk1
  have hD0 : h₁.get? s₂.heap.objs.size = some { cls := .type "dict", data := .dict #[] } := hk1 _ _ (Heap.get?_push_size _ rfl)
  obtain ⟨_, hd0, xs0, rel0, o0, es0, ep0, q1, q2, q3, q4, q5⟩ := (dt_empty (P := X.prog) (w := X.w) (H := H2) s₂.heap I.big)
  rw [Heap.get?_push_size _ rfl] at q1
  cases q1
  have loop : codeAny (model X.prog X.w) X.A (.compLoop (.DictComp kx vx [⟨tg, iter, ifs, 0⟩] scope pos) 0 (.ref it) (.ref s₂.heap.objs.size) (compEnvC scope cl (s₂.heap.objs.size + 1) X.env)) (RR (.ref s₂.heap.objs.size) (s₂.heap.objs.size + 1)) { s₂ with heap := h₁, toks := s₂.toks + ([] : List (Str × Value)).length } :=
    comp_runD (s₀ := { s₂ with heap := s₂.heap.push { cls := .type "dict", dict := none, data := .dict #[] } }) (C := s₂.heap.objs.size + 1) (D := s₂.heap.objs.size) hu I hcalm T f2 hfp (fun b o e => Heap.get?_push_of_some _ e) rfl (Nat.le_refl _) (Nat.le_succ _) (Nat.ne_of_lt (Nat.lt_succ_self _)) hcl1 (hg _ _ _ _ _) (ht _ _ _ _ _) (hk _ _ _ _ _) (he _ _ _ _ _) turn hRR m0 _
      ⟨0, [], _, capt sub σ, H2, I0, T.keep _ _ _ st fun b hb o e => hk1 b o (Heap.get?_push_of_some _ e), fun b hb => (f2 b hb).1, I.hok.fresh (Nat.le_refl _), ⟨Nat.zero_le _, hd0, [], .nil, es0, ep0, hD0, q2, q3, by cases rel0; exact q4, List.nodup_nil⟩, w0⟩
  exact codeAny_compStart_dict loop (T.self _ _ _ _ _ (T.keep _ _ _ st fun b hb o e => hk1 b o (Heap.get?_push_of_some _ e)) loop)
end
section
variable {X : Cx} {scope : Scope} {N' : List Str} {sub : List (Option Nat)} {tg : Expr} {pos : Pos} {kx vx iter : Expr} {ifs : List Expr} {wi : TI} {g : TG} {tt : TT} {tk tv : TE}
theorem pe_compD (hu : X.A.units + 1 < cLine) (S : CSc X scope N' sub) (hcalm : X.calm = true) (hi : PI X tg iter wi)
    (hg : ∀ cl C D fp s H, PG (cxC X N' scope cl C D fp s H) tg g) (ht : ∀ cl C D fp s H, PIfs (cxC X N' scope cl C D fp s H) ifs tt) (hk : ∀ cl C D fp s H, PE (cxC X N' scope cl C D fp s H) kx tk) (he : ∀ cl C D fp s H, PE (cxC X N' scope cl C D fp s H) vx tv)
    (hs : ∀ x, foldedSetIterable iter X.env x = pure x := by intro _; rfl) : PE X (.DictComp kx vx [⟨tg, iter, ifs, 0⟩] scope pos) (tCompD wi sub g tt tk tv) := by
  intro pins s σ H Q I h
  obtain ⟨cl, hclos, hcl1, hcl2⟩ := S.clos I
  rw [arm_eval_DictComp]
  refine wpAny_comprehension_free (use := none) rfl hs hclos S.kind S.names (thn (hi pins s σ H _ I h) fun v s1 h1 => thn h1 fun itv s2 h2 => ?_)
  obtain ⟨it, fp, tn, J, H2, e, I2, T, st2, f2, hW⟩ := h2
  subst e
  refine comp_blockD (RR := fun acc C => compPost (model X.prog X.w) X.A X.xe none (EP X pins σ Q) acc C) hu I2 hcalm T st2 f2 S hcl1 hcl2 (hg cl) (ht cl) (hk cl) (he cl) hW ?_
  intro D C oC m s' Hf IX hm fpc q
  refine ⟨m, hm, fun h' sb => ⟨.ref D, Hf, ?_, rfl, q⟩⟩
  exact (IX.unpinned).turned (it := C) (t' := s'.toks) (h' := h') (fun b o hb e => sb.extBut b o hb e) fpc.1 fpc.2.1 fpc.2.2.2.1 fpc.2.2.2.2.1 fpc.2.2.2.2.2
end
end L3

namespace L3
open PySem PySem.Spec PyProof.Rows L2 PySem.W
section
variable {prog : Program} {w : World} {A : Around} {E : Value → Shared → Prop} {s : Shared} {T : String} {r d : Addr} {n : Nat} {P : Nat → Value → Prop} {OK : Heap → Prop}
theorem collect_kdl {Q : List Value → Shared → Prop} (K : KdlSrc prog w T r d n P OK) (hh : A.handled = none) (hok : OK s.heap) (hn : n ≤ sizeLine)
    (hQ : ∀ (h' : Heap) tk acc', (∀ b o, s.heap.get? b = some o → h'.get? b = some o) → ItemsOf P acc' n → Q acc'.toList { s with heap := h', toks := tk }) :
    wpAny (model prog w) A (collect (.ref r)) Q E s := by
  unfold collect
  refine wpAny_bind (wpAny_runValue (codeAny_builtin F.entry_proto_collect ?_))
  rw [Around.under_plainId F.plain_proto_collect _]
  show wpAny _ A.in1 (newList [] >>= fun l => again (.builtin "list.__iadd__" ⟨[l, .ref r], []⟩)) _ _ s
  refine wpAny_bind (wpAny_newObj_type ?_)
  refine wpAny_pure ⟨plainId_quiet F.plain_list_iadd _, codeAny_builtin F.entry_list_iadd ?_⟩
  rw [Around.under_plainId F.plain_list_iadd _]
  show wpAny _ A.in1 (Builtin.List.listExtendWith (.ref s.heap.objs.size) (.ref r) (.ref s.heap.objs.size)) _ _ _
  have hS : (s.heap.push { cls := .type "list", data := .seq ([] : List Value).toArray }).get? s.heap.objs.size = some { cls := .type "list", data := .seq ([] : List Value).toArray } := Heap.get?_push_size _ rfl
  have hok' : OK (s.heap.push { cls := .type "list", data := .seq ([] : List Value).toArray }) := K.keep _ _ hok fun b _ o e => Heap.get?_push_of_some _ e
  have fin : ∀ (h' : Heap) tk acc' c', (∀ b o, s.heap.get? b = some o → h'.get? b = some o) → h'.get? s.heap.objs.size = some { cls := .type "list", dict := none, data := .seq acc' c', slots := #[] } → ItemsOf P acc' n →
      wpAny (model prog w) A (load s.heap.objs.size >>= fun o => match o.data with | .seq xs _ => pure xs.toList | _ => unsupported "internal:collect") Q E { s with heap := h', toks := tk } := fun h' tk acc' c' hk hS' hacc =>
    wpAny_bind (wpAny_load hS' (wpAny_pure (hQ h' tk acc' hk hacc)))
  refine wpAny_mono (kdl_extend (R := fun r' s' => ∃ (h' : Heap) (tk : Nat) (acc' : Array Value) (c' : Nat), r' = .ok (.ret (.ref s.heap.objs.size)) ∧ s' = { s with heap := h', toks := tk } ∧ (∀ b o, s.heap.get? b = some o → h'.get? b = some o) ∧ h'.get? s.heap.objs.size = some { cls := .type "list", dict := none, data := .seq acc' c', slots := #[] } ∧ ItemsOf P acc' n)
      K hh (s := { s with heap := s.heap.push { cls := .type "list", data := .seq ([] : List Value).toArray } }) hok' s.heap.objs.size (Ne.symm (Nat.ne_of_lt (K.there _ hok).1)) (Ne.symm (Nat.ne_of_lt (K.there _ hok).2)) _ 0 hS (fun h' tk acc' c' hk hS hacc =>
    ⟨h', tk, acc', c', rfl, rfl, fun b o e => hk b o (Nat.ne_of_lt (Heap.lt_size e)) (Heap.get?_push_of_some _ e), hS, hacc⟩) hn) (fun fn s' h => ?_) (fun e s' h => ?_)
  · cases fn with
    | done f =>
      obtain ⟨h', tk, acc', c', e, rfl, hf, hl, hS'⟩ := h
      cases e
      exact fin h' tk acc' c' hf hl hS'
    | again c =>
      refine ⟨h.1, codeAny_mono h.2 fun r s'' hr => ?_⟩
      obtain ⟨h', tk, acc', c', e, rfl, hf, hl, hS'⟩ := hr
      subst e
      exact fin h' tk acc' c' hf hl hS'
  · obtain ⟨h', tk, acc', c', e, _⟩ := h
    cases e
theorem call_tuple_kdl {Q : Value → Shared → Prop} (K : KdlSrc prog w T r d n P OK) (hh : A.handled = none) (hok : OK s.heap) (hn : n ≤ sizeLine)
    (hQ : ∀ (h' : Heap) tk acc', (∀ b o, s.heap.get? b = some o → h'.get? b = some o) → ItemsOf P acc' n → Q (.ref h'.objs.size) { s with heap := h'.push { cls := .type "tuple", data := .seq acc' }, toks := tk }) :
    wpAny (model prog w) A (call (.type "tuple") [.ref r]) Q E s := by
  refine callType_codes (Q₁ := fun obj s₁ => s₁.TypeIs obj "tuple" ∧ Q obj s₁) F.called_tuple (F.typeCall_tuple_1 _) F.entry_object_init ?_ fun obj s₁ h₁ => ?_
  · refine codeAny_of_tree ?_
    show wpAny _ A.in1.in1 (do checkBuiltinCall "tuple.__new__" ⟨[.type "tuple", .ref r], []⟩; again (.builtin "tuple.__new__" ⟨[.type "tuple", .ref r], []⟩)) _ _ s
    refine wpAny_bind (wpAny_of_eq (F.newCall_tuple_1 _) (wpAny_pure ⟨plainId_quiet F.plain_tuple_new _, codeAny_builtin F.entry_tuple_new ?_⟩))
    rw [Around.under_plainId F.plain_tuple_new _]
    have hsub := sub_tuple_self
    have hinit := init_tuple_lookup
    have hmh := madeHere_tuple
    have hTI := K.type s hok
    have hnt := K.notTuple
    wp_walk using wpAny_typeOf hTI, collect_kdl (A := A.in1.in1) K hh hok hn
    intro h' tk acc hf hacc
    show wpAny _ _ (Builtin.Tuple.tupleExact acc.toList.toArray >>= fun v => ret v) _ _ _
    unfold Builtin.Tuple.tupleExact
    refine wpAny_bind (wpAny_newObj_type ?_ (by show acc.toList.toArray.size ≤ sizeLine; simp only [Array.toArray_toList]; rw [hacc.1]; exact hn))
    refine wpAny_pure ⟨⟨_, Heap.get?_push_size _ rfl, rfl⟩, ?_⟩
    have e : acc.toList.toArray = acc := by simp
    rw [e]
    exact hQ h' tk acc hf hacc
  · exact ⟨h₁.1, F.args_object_init_2 obj _, object_init_meets F.called_tuple.init.lookup F.called_tuple.made (by decide) prog w A.in1 _ s₁ ⟨h₁.1, rfl, h₁.2⟩⟩
end
section
variable {X : Cx}
theorem call_tupleDT {k : Nat} (hr : Room k X.A) : CallR X (.type "tuple") (fun xs H Q => ∃ a kvs, xs = [V.ref a] ∧ H a = some (.dT kvs) ∧ ∀ l zs, H l = none → zs.length = kvs.length → AllR (KeyAt H) zs kvs → Q (.ref l) (upd H l (.tup zs))) := by
  intro pins s σ H xs us Q I r h
  obtain ⟨a, kvs, rfl, ha, q⟩ := h
  obtain ⟨u, rfl, ru⟩ := vals1 r
  cases ru
  obtain ⟨z, hd, ys, rel, dd⟩ := dt_of I.hok ha
  obtain ⟨o, es, ep, ho, hc, hdat, he, _, _⟩ := dd
  have hl : kvs.length = ys.length := Paired.length rel
  have hes : es.size = ys.length := size_of_entries he
  refine call_tuple_kdl (ent_src (es := es) (ep := ep) hd) hr.hd ⟨o, ho, hc, hdat⟩ (by rw [hes, ← hl]; exact z) fun h' tk acc' kp hI => ?_
  have hacc : acc'.toList = ys.map fun q => Value.ref q.2.1 := by
    apply List.ext_getElem
    · rw [Array.length_toList, hI.1, hes, List.length_map]
    · intro j h1 h2
      rw [Array.length_toList] at h1
      obtain ⟨hj, ev⟩ := hI.2 j acc'[j] (Array.getElem?_eq_getElem h1)
      have hy : j < ys.length := by omega
      have ee := entry_at he j
      rw [Array.getElem?_eq_getElem hj, List.getElem?_eq_getElem hy, Option.map_some] at ee
      rw [Array.getElem_toList, ev, Option.some.inj ee, List.getElem_map]
      rfl
  have fr : H h'.objs.size = none := (I.kept (t' := tk) kp).hok.fresh (Nat.le_refl _)
  refine ⟨.ref h'.objs.size, _, (I.kept (t' := tk) kp).laid (t' := tk) (o := .tup (ys.map fun q => V.ref q.2.1)) (fun b ob q => Heap.get?_push_of_some _ q) (Nat.le_refl _) ⟨by rw [List.length_map, ← hl]; exact z, acc'.toList, by rw [hacc]; exact keys_vals ys, ?_⟩, rfl, q _ _ fr (by rw [List.length_map, hl]) (keys_all rel)⟩
  rw [Array.toArray_toList]
  exact IsTup.new _ _
end
end L3

namespace L3
open PySem PySem.Spec PyProof.Rows L2
def numKV : Nat → List (List Int) → List (List Key × V)
  | _, [] => []
  | j, d :: r => (kI d, V.int j) :: numKV (j + 1) r
theorem numKV_app : ∀ (j : Nat) (a b : List (List Int)), numKV j (a ++ b) = numKV j a ++ numKV (j + a.length) b
  | j, [], b => rfl
  | j, d :: a, b => by
    show (kI d, V.int j) :: numKV (j + 1) (a ++ b) = (kI d, V.int j) :: (numKV (j + 1) a ++ numKV (j + (a.length + 1)) b)
    rw [numKV_app (j + 1) a b, show j + 1 + a.length = j + (a.length + 1) by omega]
theorem numKV_len : ∀ (j : Nat) (a : List (List Int)), (numKV j a).length = a.length
  | _, [] => rfl
  | j, _ :: a => congrArg (· + 1) (numKV_len (j + 1) a)
theorem numKV_no {d : List Int} : ∀ (j : Nat) {a : List (List Int)}, d ∉ a → valV (numKV j a) (kI d) = none
  | _, [], _ => rfl
  | j, e :: a, h => by
    show valV ((kI e, V.int j) :: numKV (j + 1) a) (kI d) = none
    rw [valV_neg (fun z => h (List.mem_cons.mpr (.inl (kI_inj z).symm)))]
    exact numKV_no (j + 1) fun z => h (List.mem_cons.mpr (.inr z))
def ixF : List (List Int) → List Int → Nat
  | [], _ => 0
  | e :: a, d => if e = d then 0 else ixF a d + 1
theorem numKV_val {d : List Int} : ∀ (j : Nat) {a : List (List Int)}, d ∈ a → valV (numKV j a) (kI d) = some (V.int ((j + ixF a d : Nat) : Int))
  | _, [], h => nomatch h
  | j, e :: a, h => by
    show valV ((kI e, V.int j) :: numKV (j + 1) a) (kI d) = some (V.int ((j + (if e = d then 0 else ixF a d + 1) : Nat) : Int))
    by_cases c : e = d
    · rw [valV_pos (by rw [c]), if_pos c]; rfl
    · rw [valV_neg (fun z => c (kI_inj z)), if_neg c]
      have h' : d ∈ a := (List.mem_cons.mp h).resolve_left fun z => c z.symm
      rw [numKV_val (j + 1) h', show j + 1 + ixF a d = j + (ixF a d + 1) by omega]
theorem ixF_lt {d : List Int} : ∀ {a : List (List Int)}, d ∈ a → ixF a d < a.length
  | [], h => nomatch h
  | e :: a, h => by
    show (if e = d then 0 else ixF a d + 1) < a.length + 1
    by_cases c : e = d
    · rw [if_pos c]; omega
    · rw [if_neg c]
      have := ixF_lt ((List.mem_cons.mp h).resolve_left fun z => c z.symm)
      omega
theorem ixF_get {d : List Int} : ∀ {a : List (List Int)}, d ∈ a → a.getD (ixF a d) [] = d
  | [], h => nomatch h
  | e :: a, h => by
    show (e :: a).getD (if e = d then 0 else ixF a d + 1) [] = d
    by_cases c : e = d
    · rw [if_pos c]; exact c
    · rw [if_neg c]
      exact ixF_get ((List.mem_cons.mp h).resolve_left fun z => c z.symm)
def ownT (fam : List (List Int)) : List (List Int) := fam.map fun a => fam.map fun b => (ixF fam (thenL a b) : Int)
theorem GoodF.le {ms : List (List Int)} {S : Nat} {f : FW} (h : GoodF ms S f) (hf : Few ms S) : f.length ≤ 60 := by
  obtain ⟨l, hl, hw⟩ := hf
  have := nodup_le h.nd fun d hd => hw d (h.wd d hd)
  unfold keysF at this
  rw [List.length_map] at this
  omega
structure Fam (S : Nat) (fam : List (List Int)) : Prop where
  nd : fam.Nodup
  dd : ∀ d ∈ fam, Dd S d
  cl : ∀ a ∈ fam, ∀ b ∈ fam, thenL a b ∈ fam
  hd : fam[0]? = some (idL S)
  l60 : fam.length ≤ 60
theorem FamL.fam {ms : List (List Int)} {S : Nat} {f : FW} (h : FamL ms S f) (hM : Mks ms S) (hf : Few ms S) : Fam S (keysF f) := by
  have hO := h.ok
  have h60 := hO.le hf
  refine ⟨hO.good.nd, fun d hd => (hO.good.wd d hd).dd hM, fun a ha b hb => hO.closed hM h60 ha hb, ?_, by unfold keysF; rw [List.length_map]; exact h60⟩
  have := hO.hd
  cases f with
  | nil => cases this
  | cons p f => cases this; rfl
theorem ownT_tab {S : Nat} {fam : List (List Int)} (h : Fam S fam) : TabOk fam.length fam.length (ownT fam) := by
  refine ⟨by unfold ownT; rw [List.length_map], fun row hr => ?_⟩
  obtain ⟨a, ha, rfl⟩ := List.mem_map.mp hr
  refine ⟨by rw [List.length_map], fun v hv => ?_⟩
  obtain ⟨b, hb, rfl⟩ := List.mem_map.mp hv
  have := ixF_lt (h.cl a ha b hb)
  omega
theorem ownT_cell {S : Nat} {fam : List (List Int)} (h : Fam S fam) {i j : Nat} (hi : i < fam.length) (hj : j < fam.length) : cellT (ownT fam) i j = (ixF fam (thenL (fam.getD i []) (fam.getD j [])) : Int) := by
  have e1 : (ownT fam).getD i [] = fam.map fun b => (ixF fam (thenL (fam.getD i []) b) : Int) := by
    unfold ownT
    rw [List.getD_eq_getElem?_getD, List.getElem?_map, List.getElem?_eq_getElem hi, Option.map_some, Option.getD_some, List.getD_eq_getElem?_getD, List.getElem?_eq_getElem hi, Option.getD_some]
  unfold cellT
  rw [Int.toNat_natCast, Int.toNat_natCast, e1, List.getD_eq_getElem?_getD, List.getElem?_map, List.getElem?_eq_getElem hj, Option.map_some, Option.getD_some, List.getD_eq_getElem?_getD (l := fam) (i := j), List.getElem?_eq_getElem hj, Option.getD_some]
def sp_need_by_tableG (K : PySem.W.Frag) : Sp := sp3 fun x y z H Q => ∃ (R M : Nat) (lo hi : Int) (rows : List (List Int)), RowsAt K H x rows ∧ y = .int lo ∧ z = .int hi ∧ lo ≤ R ∧ R ≤ hi ∧ 1 ≤ R ∧ R ≤ 60 ∧ 1 ≤ M ∧ M ≤ 5 ∧ TabOk R M rows ∧ ∀ H', Grow [] H H' → Q .non H'
structure MksAt (K : PySem.W.Frag) (H : Hp) (x : V) (ms : List (List Int)) (S : Nat) : Prop where
  at' : RowsAt K H x ms
  ok : Mks ms S
  s1 : 1 ≤ S
  s5 : S ≤ 5
  m1 : 1 ≤ ms.length
  m4 : ms.length ≤ 4
  few : Few ms S
theorem MksAt.grow {K : PySem.W.Frag} {m : List Addr} {H H' : Hp} {x : V} {ms : List (List Int)} {S : Nat} (h : MksAt K H x ms S) (g : Grow m H H') : MksAt K H' x ms S := ⟨g.rows h.at', h.ok, h.s1, h.s5, h.m1, h.m4, h.few⟩
def sp_grownF (K : PySem.W.Frag) : Sp := sp1 fun x H Q => ∃ (ms : List (List Int)) (S : Nat), MksAt K H x ms S ∧ ∀ y f H', Grow [] H H' → FamW K H' y f → FamL ms S f → Q y H'
def RowsB (K : PySem.W.Frag) (H : Hp) (x : V) (rows : List (List Int)) : Prop := ∃ r xs, x = .ref r ∧ SqT K H r xs ∧ AllR (KeyB H) xs rows
theorem RowsB.rows {K : PySem.W.Frag} {H : Hp} {x : V} {rows : List (List Int)} (h : RowsB K H x rows) : RowsAt K H x rows := let ⟨r, xs, e, h1, h2⟩ := h; ⟨r, xs, e, h1, h2.imp fun _ _ z => z.board⟩
theorem RowsB.grow {K : PySem.W.Frag} {m : List Addr} {H H' : Hp} {x : V} {rows : List (List Int)} (h : RowsB K H x rows) (g : Grow m H H') : RowsB K H' x rows := let ⟨r, xs, e, h1, h2⟩ := h; ⟨r, xs, e, g.sqT h1, h2.imp fun _ _ z => z.grow g⟩
def sp_famP (K : PySem.W.Frag) : Sp := sp1 fun x H Q => ∃ (ms : List (List Int)) (S : Nat), MksAt K H x ms S ∧ ∀ y f H', Grow [] H H' → RowsB K H' y (keysF f) → FamL ms S f → Q y H'
def sp_ownP (K : PySem.W.Frag) : Sp := sp1 fun x H Q => ∃ (ms : List (List Int)) (S : Nat), MksAt K H x ms S ∧ ∀ y f H', Grow [] H H' → FamL ms S f → RowsAt K H' y (ownT (keysF f)) → Q y H'
theorem keys_keyB {H : Hp} : ∀ {zs : List V} {kvs : List (List Key × V)} {fam : List (List Int)}, AllR (KeyAt H) zs kvs → kvs.map (·.1) = fam.map (List.map Sum.inl) → AllR (KeyB H) zs fam
  | [], [], [], _, _ => trivial
  | [], [], _ :: _, _, e => by cases e
  | _ :: _, _ :: _, [], _, e => by cases e
  | z :: zs, p :: kvs, d :: fam, h, e => by
    rw [List.map_cons, List.map_cons] at e
    injection e with e1 e2
    obtain ⟨⟨b, hb, hp⟩, ht⟩ := h
    refine ⟨⟨b, hb, ?_⟩, keys_keyB ht e2⟩
    rw [hp, e1, kv_ints]
  | [], _ :: _, _, h, _ => h.elim
  | _ :: _, [], _, h, _ => h.elim
section
variable {K : PySem.W.Frag} {a : Addr} {c : Bool} {xs : List V} {k : Nat} {g : TG} {tt : TT} {te tk tv : TE} {Q : VK} {σ : L2.St} {H : Hp}
theorem comp_tupP (Pv : Nat → List V → Hp → Prop) (h0 : Pv 0 [] H) (hl : ∀ i ys H', Pv i ys H' → SqT K H' a xs)
    (hs : ∀ i x ys H', xs[i]? = some x → Pv i ys H' → te (σ.set k (some x)) H' fun y H5 => ys.length < sizeLine ∧ Pv (i + 1) (ys ++ [y]) H5)
    (hd : ∀ ys H', Pv xs.length ys H' → ∀ l, H' l = none → Q (.ref l) (upd H' l (.lst ys))) : CompW (Itt K a) σ H (gName k) tTrue te Q :=
  comp_tupPT (fun _ => true) Pv h0 hl (fun _ _ _ _ h => h) (fun i x ys H' hx p _ => hs i x ys H' hx p) (fun _ _ _ _ _ _ z => nomatch z) hd
theorem comp_enumD (Pv : Nat → List (List Key × V) → L2.St → Hp → Prop) (h0 : Pv 0 [] σ H) (hl : ∀ i zs σ H, Pv i zs σ H → SqC c K H a xs)
    (hs : ∀ i x zs σ H' T, xs[i]? = some x → Pv i zs σ H' → H' T = none → g (.ref T) σ (upd H' T (.tup [.int i, x])) fun σ2 H3 => tt σ2 H3 fun b H4 => if b = true then tk σ2 H4 fun y H5 => tv σ2 H5 fun v H6 => zs.length < sizeLine ∧ ∃ b ks, y = .ref b ∧ H b = some (.tup (ks.map kV)) ∧ Pv (i + 1) (putK zs ks v) σ2 H6 else Pv (i + 1) zs σ2 H4)
    (hd : ∀ zs σ H, Pv xs.length zs σ H → ∀ l, H l = none → Q (.ref l) (upd H l (.dT zs))) :
    CompWD (IteC c K a) σ H g tt tk tv Q := by
  refine ⟨fun i m zs σ H => m = xs.length - i ∧ i ≤ xs.length ∧ Pv i zs σ H, ⟨xs.length, by simp, Nat.zero_le _, h0⟩, ?_⟩
  rintro i m zs σ H' ⟨rfl, hi, p⟩
  have q := hl i zs σ H' p
  by_cases hlt : i < xs.length
  · refine .inr ⟨⟨xs, xs[i], q, by simp [hlt]⟩, Pv (i + 1), fun ws σ' H' p' => ⟨xs.length - (i + 1), by omega, rfl, hlt, p'⟩, fun x H'' y => ?_⟩
    obtain ⟨T, v, hT, rfl, rfl, y1⟩ := y
    exact hs i v zs σ H' T (y1 xs q) p hT
  · have e : i = xs.length := by omega
    subst e
    exact .inl ⟨⟨xs, q, Nat.le_refl _⟩, hd zs σ H' p⟩
end
end L3

namespace L3
open PySem PySem.Spec PyProof.Rows L2
end L3

namespace L3
open PySem PySem.Spec PyProof.Rows L2
section
variable {prog : Program} {w : World} {A : Around} {E : Value → Shared → Prop} {s : Shared}
end
section
variable {X : Cx} {a i : Expr} {ti : TE} {ta : TA} {p2 pos2 : Pos}
end
def wholeN (S : Nat) (fam : List (List Int)) (ns : List Int) : Nat → List Int
  | 0 => idL S
  | j + 1 => thenL (wholeN S fam ns j) (fam.getD (ns.getD j 0).toNat [])
section
variable {S : Nat} {fam : List (List Int)} {ns : List Int}
theorem memN (hR : Rng fam.length ns) {j : Nat} (hj : j < ns.length) : fam.getD (ns.getD j 0).toNat [] ∈ fam := by
  have h := hR _ (show ns.getD j 0 ∈ ns by rw [List.getD_eq_getElem?_getD, List.getElem?_eq_getElem hj]; exact List.getElem_mem hj)
  exact getD_mem (by omega)
theorem wholeN_dd (hF : Fam S fam) (hR : Rng fam.length ns) : ∀ j, j ≤ ns.length → Dd S (wholeN S fam ns j)
  | 0, _ => idL_dd S
  | j + 1, h => thenL_dd (wholeN_dd hF hR j (by omega)) (hF.dd _ (memN hR (by omega)))
theorem count_n (t : Tr) : ((t.count.toNat : Nat) : Int) = t.count := by have := count_pos t; omega
theorem fold65 (hF : Fam S fam) (hR : Rng fam.length ns) : ∀ {t : Tr} {f : Nat}, Ordd t (f : Int) → f + t.count.toNat ≤ ns.length → fam.getD (numT (ownT fam) ns t).toNat [] ∈ fam ∧ wholeN S fam ns (f + t.count.toNat) = thenL (wholeN S fam ns f) (fam.getD (numT (ownT fam) ns t).toNat [])
  | .leaf n, f, o, h => by
    cases (show n = (f : Int) from o)
    have h' : f + 1 ≤ ns.length := h
    show fam.getD (ns.getD ((f : Int)).toNat 0).toNat [] ∈ fam ∧ wholeN S fam ns (f + 1) = thenL (wholeN S fam ns f) (fam.getD (ns.getD ((f : Int)).toNat 0).toNat [])
    rw [Int.toNat_natCast]
    exact ⟨memN hR (by omega), rfl⟩
  | .node l r, f, o, h => by
    have cl := count_n l
    have cr := count_n r
    have pl := count_pos l
    have pr := count_pos r
    have hc : (Tr.node l r).count.toNat = l.count.toNat + r.count.toNat := by show (l.count + r.count).toNat = _; omega
    rw [hc] at h ⊢
    have o2 : Ordd r ((f + l.count.toNat : Nat) : Int) := by
      have e : ((f + l.count.toNat : Nat) : Int) = (f : Int) + l.count := by omega
      rw [e]; exact o.2
    have a := fold65 hF hR (t := l) (f := f) o.1 (by omega)
    have b := fold65 hF hR (t := r) (f := f + l.count.toNat) o2 (by omega)
    have tok : Fd fam.length (ownT fam) ns := ⟨ownT_tab hF, hR⟩
    have rl := numT_rng tok (t := l) (f := (f : Int)) o.1 (by omega) (by omega)
    have rr := numT_rng tok (t := r) (f := ((f + l.count.toNat : Nat) : Int)) o2 (by omega) (by omega)
    have key : numT (ownT fam) ns (.node l r) = (ixF fam (thenL (fam.getD (numT (ownT fam) ns l).toNat []) (fam.getD (numT (ownT fam) ns r).toNat [])) : Int) := by
      have := ownT_cell hF (i := (numT (ownT fam) ns l).toNat) (j := (numT (ownT fam) ns r).toNat) (by omega) (by omega)
      unfold cellT at this
      rw [Int.toNat_natCast, Int.toNat_natCast] at this
      exact this
    have c := hF.cl _ a.1 _ b.1
    rw [key, Int.toNat_natCast, ixF_get c]
    refine ⟨c, ?_⟩
    rw [← Nat.add_assoc, b.2, a.2, thenL_assoc (wholeN_dd hF hR f (by omega)) (hF.dd _ a.1).1]
def st65 (S : Nat) (fam : List (List Int)) (ns : List Int) (st : Int) (f n : Nat) : List Int := (List.range n).map fun j => (wholeN S fam ns (f + j)).getD st.toNat 0
theorem st65_app (st : Int) (f a b : Nat) : st65 S fam ns st f a ++ st65 S fam ns st (f + a) b = st65 S fam ns st f (a + b) := by
  unfold st65
  rw [List.range_add, List.map_append, List.map_map]
  congr 1
  refine List.map_congr_left fun j _ => ?_
  show _ = (wholeN S fam ns (f + (a + j))).getD st.toNat 0
  rw [Nat.add_assoc]
theorem share65 (hF : Fam S fam) (hR : Rng fam.length ns) {st : Int} (s0 : 0 ≤ st) (s1 : st < S) : ∀ {t : Tr} {f : Nat}, Ordd t (f : Int) → f + t.count.toNat ≤ ns.length → shT fam (ownT fam) ns t ((wholeN S fam ns f).getD st.toNat 0) = st65 S fam ns st f t.count.toNat
  | .leaf n, f, _, _ => rfl
  | .node l r, f, o, h => by
    have cl := count_n l
    have cr := count_n r
    have pl := count_pos l
    have pr := count_pos r
    have hc : (Tr.node l r).count.toNat = l.count.toNat + r.count.toNat := by show (l.count + r.count).toNat = _; omega
    rw [hc] at h ⊢
    have o2 : Ordd r ((f + l.count.toNat : Nat) : Int) := by
      have e : ((f + l.count.toNat : Nat) : Int) = (f : Int) + l.count := by omega
      rw [e]; exact o.2
    have a := fold65 hF hR (t := l) (f := f) o.1 (by omega)
    have d := wholeN_dd hF hR f (by omega)
    have e : (fam.getD (numT (ownT fam) ns l).toNat []).getD ((wholeN S fam ns f).getD st.toNat 0).toNat 0 = (wholeN S fam ns (f + l.count.toNat)).getD st.toNat 0 := by
      rw [a.2]
      unfold thenL
      have hs : st.toNat < (wholeN S fam ns f).length := by rw [d.1]; omega
      rw [List.getD_eq_getElem?_getD (l := (wholeN S fam ns f).map _), List.getElem?_map, List.getElem?_eq_getElem hs, List.getD_eq_getElem?_getD (l := wholeN S fam ns f), List.getElem?_eq_getElem hs]
      rfl
    show shT fam (ownT fam) ns l _ ++ shT fam (ownT fam) ns r ((fam.getD (numT (ownT fam) ns l).toNat []).getD ((wholeN S fam ns f).getD st.toNat 0).toNat 0) = _
    rw [e, share65 hF hR s0 s1 (t := l) o.1 (by omega), share65 hF hR s0 s1 (t := r) o2 (by omega), st65_app]
end
end L3

namespace L3
open PySem PySem.Spec PyProof.Rows L2 PySem.W
structure OrdB (n : Nat) (lt : Nat → Nat → Bool) : Prop where
  tr : ∀ {i j k : Nat}, lt i j = true → lt j k = true → lt i k = true
  as : ∀ {i j : Nat}, lt i j = true → lt j i = false
  to : ∀ {i j : Nat}, i < n → j < n → i ≠ j → lt i j = false → lt j i = true
structure PmA (n : Nat) (p : Array Nat) : Prop where
  sz : p.size = n
  pm : p.toList.Perm (List.range n)
theorem PmA.lt {n : Nat} {p : Array Nat} (h : PmA n p) {i : Nat} (hi : i < n) : p.getD i 0 < n := by
  have hi' : i < p.toList.length := by rw [Array.length_toList, h.sz]; exact hi
  have e : p.getD i 0 = p.toList[i] := by simp [Array.getD, h.sz, hi]
  rw [e]
  exact List.mem_range.mp (h.pm.mem_iff.mp (List.getElem_mem hi'))
theorem PmA.inj {n : Nat} {p : Array Nat} (h : PmA n p) {i j : Nat} (hi : i < n) (hj : j < n) (hne : i ≠ j) : p.getD i 0 ≠ p.getD j 0 := by
  have hi' : i < p.toList.length := by rw [Array.length_toList, h.sz]; exact hi
  have hj' : j < p.toList.length := by rw [Array.length_toList, h.sz]; exact hj
  have e : p.getD i 0 = p.toList[i] := by simp [Array.getD, h.sz, hi]
  have e' : p.getD j 0 = p.toList[j] := by simp [Array.getD, h.sz, hj]
  rw [e, e']
  intro z
  exact hne ((List.getElem_inj (h.pm.nodup_iff.mpr List.nodup_range)).mp z)
def Ups (lt : Nat → Nat → Bool) (p : Array Nat) (k : Nat) : Prop := ∀ i j, i < j → j < k → lt (p.getD i 0) (p.getD j 0) = true
def Downs (lt : Nat → Nat → Bool) (p : Array Nat) (k : Nat) : Prop := ∀ i j, i < j → j < k → lt (p.getD j 0) (p.getD i 0) = true
section
variable {n : Nat} {lt : Nat → Nat → Bool} {cmp : Nat → Nat → (Bool → Shared → Prop) → Shared → Prop} {s : Shared}
theorem Ups.snoc {p : Array Nat} {m : Nat} (o : OrdB n lt) (h1 : 1 ≤ m) (u : Ups lt p m) (e : lt (p.getD (m - 1) 0) (p.getD m 0) = true) : Ups lt p (m + 1) := by
  intro i j hij hj
  by_cases hjm : j < m
  · exact u i j hij hjm
  · obtain rfl : j = m := by omega
    by_cases hi : i = j - 1
    · subst hi; exact e
    · exact o.tr (u i (j - 1) (by omega) (by omega)) e
theorem Downs.snoc {p : Array Nat} {m : Nat} (o : OrdB n lt) (h1 : 1 ≤ m) (u : Downs lt p m) (e : lt (p.getD m 0) (p.getD (m - 1) 0) = true) : Downs lt p (m + 1) := by
  intro i j hij hj
  by_cases hjm : j < m
  · exact u i j hij hjm
  · obtain rfl : j = m := by omega
    by_cases hi : i = j - 1
    · subst hi; exact e
    · exact o.tr e (u i (j - 1) (by omega) (by omega))
end
end L3

namespace L3
open PySem PySem.Spec PyProof.Rows L2 PySem.W
section
variable {prog : Program} {w : World} {A : Around} {E : Value → Shared → Prop} {s : Shared}
end
end L3

namespace L3
open PySem PySem.Spec PyProof.Rows L2 PySem.W
section
variable {prog : Program} {w : World} {A : Around} {E : Value → Shared → Prop} {s : Shared} {b fin : Bool} {Q : Bool → Shared → Prop}
structure RowAt (h : Heap) (v : Value) (row : List Int) (x : Addr) (ob : Obj) (its : Array Value) (n : Nat) : Prop where
  e : v = .ref x
  g : h.get? x = some ob
  c : ob.cls = .type "tuple"
  d : ob.data = .seq its n
  i : IntsAre its.toList row
def Row1 (h : Heap) (v : Value) (row : List Int) : Prop := ∃ x ob its n, RowAt h v row x ob its n
inductive Rows (h : Heap) : List Value → List (List Int) → Prop
  | nil : Rows h [] []
  | cons {v vs row rows} : Row1 h v row → Rows h vs rows → Rows h (v :: vs) (row :: rows)
theorem Rows.len {h : Heap} : ∀ {vs rows}, Rows h vs rows → vs.length = rows.length
  | _, _, .nil => rfl
  | _, _, .cons _ t => congrArg (· + 1) t.len
theorem Rows.get {h : Heap} : ∀ {vs rows} {i : Nat}, Rows h vs rows → i < vs.length → Row1 h (vs.getD i Value.none) (rows.getD i [])
  | _, _, _, .nil, hi => absurd hi (by simp)
  | _, _, 0, .cons r _, _ => r
  | _, _, i + 1, .cons _ t, hi => by
    have := t.get (i := i) (by simpa using hi)
    exact this
theorem Rows.old {h h' : Heap} (k : ∀ x ob, h.get? x = some ob → h'.get? x = some ob) : ∀ {vs rows}, Rows h vs rows → Rows h' vs rows
  | _, _, .nil => .nil
  | _, _, .cons ⟨x, ob, its, n, r⟩ t => .cons ⟨x, ob, its, n, r.e, k _ _ r.g, r.c, r.d, r.i⟩ (t.old k)
theorem Rows.tups {h : Heap} : ∀ {vs rows}, Rows h vs rows → (∀ r ∈ rows, r ≠ []) → ∃ fs, KatTups h vs fs ∧ fs.length = vs.length ∧ ∀ f ∈ fs, ∃ n t, f = Value.int n t
  | _, _, .nil, _ => ⟨[], .nil, rfl, fun f hf => absurd hf (by simp)⟩
  | _, _, .cons ⟨x, ob, its, n, r⟩ t, ne => by
    rename_i v vs row rows
    obtain ⟨fs, k, l, a⟩ := t.tups fun r hr => ne r (List.mem_cons_of_mem _ hr)
    have hne := ne row List.mem_cons_self
    obtain ⟨f, hf, n', t', rfl⟩ : ∃ f, its[0]? = some f ∧ ∃ n t, f = Value.int n t := by
      have hi := r.i
      rw [← Array.getElem?_toList]
      revert hi
      generalize its.toList = us
      intro hi
      cases hi with
      | nil => exact absurd rfl hne
      | cons n t _ => exact ⟨_, rfl, n, t, rfl⟩
    obtain rfl := r.e
    exact ⟨Value.int n' t' :: fs, .cons r.g r.c r.d hf k, congrArg (· + 1) l, fun f hf => by
      rcases List.mem_cons.mp hf with rfl | hf
      · exact ⟨n', t', rfl⟩
      · exact a f hf⟩
end
section
variable {X : Cx} {K : PySem.W.Frag}
end
end L3

namespace L3
open PySem PySem.Spec PyProof.Rows L2 PySem.W
section
variable {prog : Program} {w : World} {A : Around} {E : Value → Shared → Prop} {s : Shared} {es : Array DictEntry} {d it r : Addr} {ep i : Nat}
theorem val_view {Q : Value → Shared → Prop} (lo : (d == sysModules) = false) (hm : EntAt es d ep s.heap) (q : Q (.ref s.heap.objs.size) { s with heap := s.heap.push { cls := .type "dict_values", data := .fields #[.ref d] } }) :
    wpAny (model prog w) A (call (.builtin "dict.values") [.ref d]) Q E s := by
  have hT : s.TypeIs (.ref d) "dict" := hm.typeIs
  refine wpAny_call_entry PySem.F.slot_dict_values hT PySem.F.entry_dict_values ?_ (PySem.F.args_dict_values_1 _)
  unfold Builtin.«dict.values»
  refine wpAny_bind ?_
  unfold Builtin.Dict.noArgs
  refine wpAny_bind (wpAny_notOrdered_dict hT (show wpAny _ _ (pure d) _ _ s from wpAny_pure ?_))
  show wpAny _ _ (Builtin.Dict.showsAll d >>= _) _ _ s
  unfold Builtin.Dict.showsAll
  rw [if_neg (by rw [lo]; exact Bool.false_ne_true)]
  exact wpAny_bind (wpAny_pure (wpAny_bind (wpAny_newObj_type (wpAny_pure ⟨_, rfl, q⟩))))
theorem val_iter {Q : Value → Shared → Prop} (hv : s.heap.IsValuesView r d) (hm : EntAt es d ep s.heap)
    (hQ : Q (.ref s.heap.objs.size) { s with heap := s.heap.push { cls := .type "dict_valueiterator", data := .fields #[.ref d, .int 0 0, .int es.size 0, .int ep 0] } }) :
    wpAny (model prog w) A (pyIter (.ref r)) Q E s := by
  obtain ⟨ov, hov, hcv, hdv⟩ := id hv
  obtain ⟨o, ho, hc, hdat⟩ := id hm
  refine wpAny_pyIter_slot hv.typeIs PySem.F.slot_dict_values_iter (wpAny_call_entry PySem.F.slot_dict_values_iter hv.typeIs PySem.F.entry_dict_values_iter ?_ (PySem.F.args_dict_values_iter_1 _))
  unfold Builtin.«dict_values.__iter__»
  refine wpAny_bind (wpAny_pure (wpAny_bind ?_))
  unfold Builtin.Dict_items.dictOf
  refine wpAny_bind (wpAny_field hov hdv (x := .ref d) rfl (wpAny_pure (wpAny_bind ?_)))
  unfold Builtin.Dict_items.newIterator
  refine wpAny_bind (wpAny_dictEntries ho hdat (wpAny_bind (wpAny_dictEpoch ho hdat ?_)))
  have own : Builtin.Dict_items.ownsTuple "dict_valueiterator" = false := by decide
  simp only [own, Bool.false_eq_true, if_false]
  refine wpAny_newObj_type (wpAny_pure ⟨_, rfl, "dict_valueiterator", _, ⟨_, Heap.get?_push_size _ rfl, rfl⟩, PySem.F.slot_dict_valueiterator_next.lookup, ?_⟩)
  simpa [rawInt] using hQ
theorem val_next {Q : Option Value → Shared → Prop} (hit : s.heap.IsValIter it d i es.size ep) (hm : EntAt es d ep s.heap) (hlt : i < es.size)
    (hQ : ∀ h', h'.IsValIter it d (i + 1) es.size ep → Heap.SameBut it s.heap h' → Q (some es[i].val) { s with heap := h' }) :
    wpAny (model prog w) A (pyNext (.ref it)) Q E s := by
  obtain ⟨o, ho, hc, hd⟩ := id hit
  obtain ⟨od, hod, hcd, hdd⟩ := id hm
  unfold pyNext
  refine wpAny_bind (wpAny_attempt (wpAny_callSpecial?_slot (name := Str.ofString "__next__") hit.typeIs PySem.F.slot_dict_valueiterator_next
    (wpAny_call_entry PySem.F.slot_dict_valueiterator_next hit.typeIs PySem.F.entry_dict_valueiterator_next ?_ (PySem.F.args_dict_valueiterator_next_1 _))))
  refine wpAny_bind (wpAny_pure ?_)
  refine wpAny_bind ?_
  refine wpAny_bind ?_
  first | refine wpAny_bind (wpAny_typeNameOfWhole_valiter hit.typeIs (wpAny_pure ?_)) | refine wpAny_bind (wpAny_typeNameOf_valiter hit.typeIs (wpAny_pure ?_))
  refine wpAny_bind (wpAny_fieldsOf ho hd ?_)
  have hown : Builtin.Dict_items.ownsTuple "dict_valueiterator" = false := by decide
  simp only [hown, Bool.false_eq_true, if_false]
  show wpAny _ _ (if (Value.ref d == Value.none) = true then _ else _) _ _ s
  rw [if_neg (show ¬ ((Value.ref d == Value.none) = true) from Bool.false_ne_true)]
  refine wpAny_bind (wpAny_pure ?_)
  refine wpAny_bind (wpAny_dictEntries hod hdd ?_)
  rw [if_neg (by simp)]
  refine wpAny_bind (wpAny_pure ?_)
  refine wpAny_bind (wpAny_dictEpoch hod hdd ?_)
  rw [if_neg (by simp)]
  refine wpAny_pure ?_
  simp only [show ¬ ((i : Int) < 0) from by omega, if_false, Int.toNat_natCast, Array.getElem?_eq_getElem hlt]
  refine wpAny_bind ?_
  first | refine wpAny_bind (wpAny_typeNameOfWhole_valiter hit.typeIs (wpAny_pure ?_)) | refine wpAny_bind (wpAny_typeNameOf_valiter hit.typeIs (wpAny_pure ?_))
  refine wpAny_bind (wpAny_isOneOf_valiter hit.typeIs ?_)
  show wpAny _ _ (setField (.ref it) 1 (rawInt ((i : Int) + 1)) >>= _) _ _ s
  refine wpAny_bind (wpAny_setField ho hd (by simp) ?_)
  have hit' : (s.heap.update it (Obj.mapFields (·.setIfInBounds 1 (rawInt ((i : Int) + 1))))).IsValIter it d (i + 1) es.size ep :=
    ⟨_, Heap.get?_update_self _ ho (Obj.isFreed_of_fields (Obj.data_mapFields hd _)), (Obj.cls_mapFields ..).trans hc, by rw [Obj.data_mapFields hd]; simp [rawInt]⟩
  refine wpAny_bind (wpAny_holding ?_)
  refine wpAny_bind (wpAny_isOneOf_valiter (s := { s with heap := s.heap.update it (Obj.mapFields (·.setIfInBounds 1 (rawInt ((i : Int) + 1)))) }) hit'.typeIs ?_)
  refine wpAny_bind (wpAny_isOneOf_valiter (s := { s with heap := s.heap.update it (Obj.mapFields (·.setIfInBounds 1 (rawInt ((i : Int) + 1)))) }) hit'.typeIs ?_)
  show wpAny _ _ (pure es[i].val) _ _ _
  exact wpAny_pure (wpAny_pure ⟨_, rfl, wpAny_pure (hQ _ hit' (Heap.SameBut.update ..))⟩)
theorem val_end {Q : Option Value → Shared → Prop} (hh : A.handled = none) (hit : s.heap.IsValIter it d es.size es.size ep) (hm : EntAt es d ep s.heap)
    (hQ : ∀ h', Heap.ExtBut it s.heap h' → Q none { s with heap := h' }) : wpAny (model prog w) A (pyNext (.ref it)) Q E s := by
  obtain ⟨o, ho, hc, hd⟩ := id hit
  obtain ⟨od, hod, hcd, hdd⟩ := id hm
  unfold pyNext
  refine wpAny_bind (wpAny_attempt (wpAny_callSpecial?_slot (name := Str.ofString "__next__") hit.typeIs PySem.F.slot_dict_valueiterator_next
    (wpAny_call_entry PySem.F.slot_dict_valueiterator_next hit.typeIs PySem.F.entry_dict_valueiterator_next ?_ (PySem.F.args_dict_valueiterator_next_1 _))))
  refine wpAny_bind (wpAny_pure ?_)
  refine wpAny_bind ?_
  refine wpAny_bind ?_
  first | refine wpAny_bind (wpAny_typeNameOfWhole_valiter hit.typeIs (wpAny_pure ?_)) | refine wpAny_bind (wpAny_typeNameOf_valiter hit.typeIs (wpAny_pure ?_))
  refine wpAny_bind (wpAny_fieldsOf ho hd ?_)
  have hown : Builtin.Dict_items.ownsTuple "dict_valueiterator" = false := by decide
  simp only [hown, Bool.false_eq_true, if_false]
  show wpAny _ _ (if (Value.ref d == Value.none) = true then _ else _) _ _ s
  rw [if_neg (show ¬ ((Value.ref d == Value.none) = true) from Bool.false_ne_true)]
  refine wpAny_bind (wpAny_pure ?_)
  refine wpAny_bind (wpAny_dictEntries hod hdd ?_)
  rw [if_neg (by simp)]
  refine wpAny_bind (wpAny_pure ?_)
  refine wpAny_bind (wpAny_dictEpoch hod hdd ?_)
  rw [if_neg (by simp)]
  refine wpAny_pure ?_
  simp only [show ¬ ((es.size : Int) < 0) from by omega, if_false, Int.toNat_natCast, Array.getElem?_eq_none (Nat.le_refl es.size)]
  refine wpAny_bind ?_
  first | refine wpAny_bind (wpAny_typeNameOfWhole_valiter hit.typeIs (wpAny_pure ?_)) | refine wpAny_bind (wpAny_typeNameOf_valiter hit.typeIs (wpAny_pure ?_))
  show wpAny _ _ (setField (.ref it) 0 .none >>= _) _ _ s
  refine wpAny_bind (wpAny_setField ho hd (by simp) ?_)
  show wpAny _ _ (newExc (.type "StopIteration") [] >>= _) _ _ _
  refine wpAny_bind ?_
  simp only [newExc, newTuple]
  refine wpAny_bind (wpAny_newObj_type ?_ (by size_fits))
  refine wpAny_bind (m := firstArgMember _ _) (wpAny_of_eq (a := Value.none) (by first | rfl | (simp only [firstArgMember]; rfl)) ?_)
  refine wpAny_newObj_type ?_ (by size_fits)
  simp only [raiseNew]
  refine wpAny_bind (wpAny_handled ?_)
  rw [show A.in1.handled = none from hh]
  refine wpAny_bind (wpAny_pure (wpAny_throw ?_))
  refine wpAny_bind (wpAny_isInstance (T := "StopIteration") (b := true) ⟨_, Heap.get?_push_size _ rfl, rfl⟩ isSubtype_stop ?_)
  exact wpAny_pure (hQ _ (((Heap.SameBut.update ..).extBut.push _).push _))
theorem val_walks (hh : A.handled = none) (I d : Addr) (hne : d ≠ I) (es : Array DictEntry) (ep : Nat) :
    Walks prog w A I [I, d] [I] es.size (fun i v => ∃ h : i < es.size, v = es[i].val) (fun i h => h.IsValIter I d i es.size ep ∧ EntAt es d ep h) where
  sub := fun b hb => by simp at hb; simp [hb]
  frame := fun _ _ _ st hk => ⟨st.1.at fun o e => hk I (by simp) o e, st.2.keep fun o e => hk d (by simp) o e⟩
  item := fun i s Q E hi st hQ => by
    refine val_next st.1 st.2 hi fun h' hit' hs' => ?_
    exact hQ _ h' s.toks ⟨hi, rfl⟩ ⟨hit', st.2.keep fun o e => hs'.extBut d o hne e⟩ fun b o hb e => hs'.extBut b o (fun h => hb (by simp [h])) e
  done := fun s Q E st hQ => val_end hh st.1 st.2 fun h' he' => hQ h' s.toks fun b o hb e => he' b o (fun h => hb (by simp [h])) e
  self := fun _ _ _ _ st hQ => wpAny_pyIter_valiter st.1 hQ
theorem val_src : KdlSrc prog w "dict_values" r d es.size (fun i v => ∃ h : i < es.size, v = es[i].val) (fun h => h.IsValuesView r d ∧ EntAt es d ep h) where
  type := fun _ hm => hm.1.typeIs
  there := fun _ hm => ⟨let ⟨_, ho, _⟩ := hm.1; Heap.lt_size ho, let ⟨_, ho, _⟩ := hm.2; Heap.lt_size ho⟩
  keep := fun _ _ hm hk => ⟨let ⟨o, ho, x⟩ := hm.1; ⟨o, hk r (.inl rfl) o ho, x⟩, hm.2.keep fun o e => hk d (.inr rfl) o e⟩
  notList := by decide
  notTuple := by decide
  hint := fun _ _ _ _ hm hq => kdl_hint_values hm.1.typeIs hq
  iter := fun _ _ hh hm => ⟨_, _, (fun _ _ hq => val_iter hm.1 hm.2 hq), val_walks hh _ d (let ⟨_, ho, _⟩ := hm.2; Nat.ne_of_lt (Heap.lt_size ho)) es ep, ⟨⟨_, Heap.get?_push_size _ rfl, rfl, rfl⟩, hm.2.keep fun o e => Heap.get?_push_of_some _ e⟩⟩
end
theorem vals_kt {H : Hp} : ∀ {kvs : List (List Key × V)} {ys : List (List Key × Addr × Value)}, KT H kvs ys → Vals (kvs.map (·.2)) (ys.map fun q => q.2.2)
  | _, _, .nil => .nil
  | _, _, .cons h t => .cons h.2.2 (vals_kt t)
section
variable {X : Cx} {o : Expr} {to : TE} {p pos apos cpos : Pos}
def tTupVals (to : TE) : TE := fun σ H Q => to σ H fun x H1 => ∃ a kvs, x = V.ref a ∧ H1 a = some (.dT kvs) ∧ ∀ l, H1 l = none → Q (.ref l) (upd H1 l (.tup (kvs.map (·.2))))
theorem pe_tupVals {k : Nat} (hr : Room k X.A) (hgl : Gl X "tuple") (hmt : X.mg "tuple" = none) (ho : PE X o to)
    (hbase : attributeBase o "values" X.env (eval o X.env) = eval o X.env := by rfl) (hline : (apos.endLine == cpos.line) = true := by rfl)
    (hs2 : starEach [(.Call (.Attribute o "values" apos) [] [] cpos : Expr)] X.env = [(false, eval (.Call (.Attribute o "values" apos) [] [] cpos) X.env)] := by rfl) :
    PE X (.Call (.Name "tuple" p) [.Call (.Attribute o "values" apos) [] [] cpos] [] pos) (tTupVals to) := by
  intro pins s σ H Q I h
  refine wpAny_Call_Name_kw (ld_blt I hgl hmt b_tuple (PyProof.Rows.callWith_type1 ?_ hs2 rfl))
  rw [hs2]
  show wpAny _ _ (spliced [(false, eval (.Call (.Attribute o "values" apos) [] [] cpos) X.env)]) _ _ s
  refine Calls.spliced_cons ?_
  refine wpAny_Call_method0_late hbase hline (thn (ho pins s σ H _ I h) fun v s1 ⟨x, H1, I1, r1, a, kvs, ex, ha, q⟩ => ?_)
  subst ex
  obtain rfl : v = Value.ref a := r1
  obtain ⟨z, hd, ys, rel, dd⟩ := dt_of I1.hok ha
  obtain ⟨ob, es, ep, e0, hc, hdat, he, _, _⟩ := dd
  have hl : kvs.length = ys.length := Paired.length rel
  have hes : es.size = ys.length := size_of_entries he
  have em : EntAt es a ep s1.heap := ⟨ob, e0, hc, hdat⟩
  refine ⟨"dict", "dict.values", PySem.F.plainAttrs_dict, PySem.F.slot_dict_values, PySem.F.type_dict_values, em.typeIs, fun b e => by cases e; exact ⟨ob, e0, hc.2.1⟩, Calls.callWith_builtin rfl (PySem.evalArgs_none (val_view hd em (Calls.spliced_nil ?_)))⟩
  have em' : EntAt es a ep (s1.heap.push { cls := .type "dict_values", data := .fields #[.ref a] }) := em.keep fun o e => Heap.get?_push_of_some _ e
  have I2 : Inv X pins σ H1 { s1 with heap := s1.heap.push { cls := .type "dict_values", data := .fields #[.ref a] } } := I1.kept (t' := s1.toks) fun b o e => Heap.get?_push_of_some _ e
  refine call_tuple_kdl (s := { s1 with heap := s1.heap.push { cls := .type "dict_values", data := .fields #[.ref a] } }) (val_src (es := es) (ep := ep) (d := a) (r := s1.heap.objs.size)) hr.hd ⟨⟨_, Heap.get?_push_size _ rfl, rfl, rfl⟩, em'⟩ (by rw [hes, ← hl]; exact z) fun h' tk acc' kp hI => ?_
  have hacc : acc'.toList = ys.map fun q => q.2.2 := by
    apply List.ext_getElem
    · rw [Array.length_toList, hI.1, hes, List.length_map]
    · intro j h1 h2
      rw [Array.length_toList] at h1
      obtain ⟨hj, ev⟩ := hI.2 j acc'[j] (Array.getElem?_eq_getElem h1)
      have hy : j < ys.length := by omega
      have ee := entry_at he j
      rw [Array.getElem?_eq_getElem hj, List.getElem?_eq_getElem hy, Option.map_some] at ee
      rw [Array.getElem_toList, ev, Option.some.inj ee, List.getElem_map]
      rfl
  have fr : H1 h'.objs.size = none := (I2.kept (t' := tk) kp).hok.fresh (Nat.le_refl _)
  refine ⟨.ref h'.objs.size, _, (I2.kept (t' := tk) kp).laid (t' := tk) (o := .tup (kvs.map (·.2))) (fun b ob q => Heap.get?_push_of_some _ q) (Nat.le_refl _) ⟨by rw [List.length_map]; exact z, acc'.toList, by rw [hacc]; exact vals_kt rel, ?_⟩, rfl, q _ fr⟩
  rw [Array.toArray_toList]
  exact IsTup.new _ _
end
end L3

namespace L3
open PySem PySem.Spec PyProof.Rows L2
structure Nm (S : Nat) (π : List Int) : Prop where
  l : π.length = S
  pm : π.Perm (idL S)
def ap (π : List Int) (i : Int) : Int := π.getD i.toNat 0
theorem getD_mem' {l : List Int} {i : Nat} (h : i < l.length) : l.getD i 0 ∈ l := by
  rw [List.getD_eq_getElem?_getD, List.getElem?_eq_getElem h]; exact List.getElem_mem h
theorem idL_mem {S : Nat} {i : Int} : i ∈ idL S ↔ 0 ≤ i ∧ i < S := by
  unfold idL
  rw [List.mem_map]
  constructor
  · rintro ⟨k, hk, rfl⟩
    have := List.mem_range.mp hk
    omega
  · rintro ⟨h0, h1⟩
    exact ⟨i.toNat, List.mem_range.mpr (by omega), by omega⟩
theorem idL_nodup (S : Nat) : (idL S).Nodup := by
  unfold idL
  exact List.Pairwise.map _ (fun a b h z => h (by omega)) (List.nodup_range (n := S))
section
variable {S : Nat} {π : List Int}
theorem Nm.rng (h : Nm S π) {i : Int} (h0 : 0 ≤ i) (h1 : i < S) : 0 ≤ ap π i ∧ ap π i < S := idL_mem.mp (h.pm.mem_iff.mp (getD_mem' (by rw [h.l]; omega)))
theorem Nm.inj (h : Nm S π) {i j : Int} (i0 : 0 ≤ i) (i1 : i < S) (j0 : 0 ≤ j) (j1 : j < S) (e : ap π i = ap π j) : i = j := by
  have hi : i.toNat < π.length := by rw [h.l]; omega
  have hj : j.toNat < π.length := by rw [h.l]; omega
  have e' : π[i.toNat] = π[j.toNat] := by
    unfold ap at e
    rwa [List.getD_eq_getElem?_getD, List.getD_eq_getElem?_getD, List.getElem?_eq_getElem hi, List.getElem?_eq_getElem hj] at e
  have := (List.getElem_inj (h.pm.nodup_iff.mpr (idL_nodup S))).mp e'
  omega
def un (π : List Int) (j : Int) : Int := (π.idxOf j : Nat)
theorem Nm.un (h : Nm S π) {j : Int} (j0 : 0 ≤ j) (j1 : j < S) : 0 ≤ L3.un π j ∧ L3.un π j < S ∧ ap π (L3.un π j) = j := by
  have hm : j ∈ π := h.pm.mem_iff.mpr (idL_mem.mpr ⟨j0, j1⟩)
  have hl : π.idxOf j < π.length := List.idxOf_lt_length_of_mem hm
  have hS := h.l
  refine ⟨Int.natCast_nonneg _, by show ((π.idxOf j : Nat) : Int) < S; omega, ?_⟩
  show π.getD ((π.idxOf j : Nat) : Int).toNat 0 = j
  rw [Int.toNat_natCast, List.getD_eq_getElem?_getD, List.getElem?_eq_getElem hl]
  exact List.getElem_idxOf hl
theorem Nm.un_ap (h : Nm S π) {i : Int} (i0 : 0 ≤ i) (i1 : i < S) : L3.un π (ap π i) = i := by
  obtain ⟨a, b⟩ := h.rng i0 i1
  obtain ⟨c, d, e⟩ := h.un a b
  exact h.inj c d i0 i1 e
def ren (π d : List Int) : List Int := (idL π.length).map fun j => ap π (ap d (un π j))
theorem ren_len : (ren π d).length = π.length := by unfold ren idL; rw [List.length_map, List.length_map, List.length_range]
theorem ap_map {f : Int → Int} {i : Int} (h0 : 0 ≤ i) (h1 : i < S) : ap ((idL S).map f) i = f i := by
  unfold ap
  have hl : i.toNat < (idL S).length := by unfold idL; rw [List.length_map, List.length_range]; omega
  rw [List.getD_eq_getElem?_getD, List.getElem?_map, List.getElem?_eq_getElem hl]
  show f ((idL S)[i.toNat]) = f i
  congr 1
  have e := idL_get h0 h1
  rwa [List.getD_eq_getElem?_getD, List.getElem?_eq_getElem hl] at e
theorem Nm.ren_ap (h : Nm S π) {d : List Int} {j : Int} (j0 : 0 ≤ j) (j1 : j < S) : ap (ren π d) j = ap π (ap d (L3.un π j)) := by
  unfold ren; rw [h.l]; exact ap_map j0 j1
theorem dd_ap {d : List Int} (hd : Dd S d) {i : Int} (h0 : 0 ≤ i) (h1 : i < S) : 0 ≤ ap d i ∧ ap d i < S := hd.2 _ (getD_mem' (by rw [hd.1]; omega))
theorem Nm.ren_dd (h : Nm S π) {d : List Int} (hd : Dd S d) : Dd S (ren π d) := by
  refine ⟨ren_len.trans h.l, fun v hv => ?_⟩
  unfold ren at hv
  obtain ⟨j, hj, rfl⟩ := List.mem_map.mp hv
  rw [h.l] at hj
  obtain ⟨j0, j1⟩ := idL_mem.mp hj
  obtain ⟨c, e, _⟩ := h.un j0 j1
  obtain ⟨x, y⟩ := dd_ap hd c e
  exact h.rng x y
theorem dd_ext {a b : List Int} (ha : a.length = S) (hb : b.length = S) (h : ∀ i : Int, 0 ≤ i → i < S → ap a i = ap b i) : a = b := by
  refine List.ext_getElem (by rw [ha, hb]) fun i h1 h2 => ?_
  have := h (i : Int) (by omega) (by omega)
  unfold ap at this
  rwa [Int.toNat_natCast, List.getD_eq_getElem?_getD, List.getD_eq_getElem?_getD, List.getElem?_eq_getElem h1, List.getElem?_eq_getElem h2] at this
theorem ap_then {a b : List Int} (ha : Dd S a) {i : Int} (h0 : 0 ≤ i) (h1 : i < S) : ap (thenL a b) i = ap b (ap a i) := by
  unfold ap thenL
  have hl : i.toNat < a.length := by rw [ha.1]; omega
  rw [List.getD_eq_getElem?_getD, List.getElem?_map, List.getD_eq_getElem?_getD (l := a), List.getElem?_eq_getElem hl]; rfl
theorem Nm.ren_then (h : Nm S π) {a b : List Int} (ha : Dd S a) (hb : Dd S b) : thenL (ren π a) (ren π b) = ren π (thenL a b) := by
  refine dd_ext (S := S) (thenL_len.trans (h.ren_dd ha).1) (ren_len.trans h.l) fun j j0 j1 => ?_
  obtain ⟨c, e, _⟩ := h.un j0 j1
  obtain ⟨x, y⟩ := dd_ap ha c e
  obtain ⟨p, q⟩ := h.rng x y
  rw [ap_then (h.ren_dd ha) j0 j1, h.ren_ap j0 j1, h.ren_ap p q, h.un_ap x y, h.ren_ap j0 j1, ap_then ha c e]
theorem ap_id {i : Int} (h0 : 0 ≤ i) (h1 : i < S) : ap (idL S) i = i := idL_get h0 h1
theorem Nm.ren_id (h : Nm S π) : ren π (idL S) = idL S := by
  refine dd_ext (S := S) (ren_len.trans h.l) (idL_dd S).1 fun j j0 j1 => ?_
  obtain ⟨c, e, f⟩ := h.un j0 j1
  rw [h.ren_ap j0 j1, ap_id c e, f, ap_id j0 j1]
theorem Nm.ren_inj (h : Nm S π) {a b : List Int} (ha : Dd S a) (hb : Dd S b) (e : ren π a = ren π b) : a = b := by
  refine dd_ext ha.1 hb.1 fun i i0 i1 => ?_
  obtain ⟨p, q⟩ := h.rng i0 i1
  have z : ap (ren π a) (ap π i) = ap (ren π b) (ap π i) := by rw [e]
  rw [h.ren_ap p q, h.ren_ap p q, h.un_ap i0 i1] at z
  obtain ⟨x, y⟩ := dd_ap ha i0 i1
  obtain ⟨x', y'⟩ := dd_ap hb i0 i1
  exact h.inj x y x' y' z
def rnF (π : List Int) (f : FW) : FW := f.map fun p => (ren π p.1, p.2)
theorem Nm.word (h : Nm S π) {d : List Int} (hd : Dd S d) : ∀ {f : FW}, (∀ k ∈ keysF f, Dd S k) → wordOf (rnF π f) (ren π d) = wordOf f d
  | [], _ => rfl
  | p :: f, hf => by
    have hp := hf p.1 List.mem_cons_self
    have ih := h.word hd (f := f) fun k hk => hf k (List.mem_cons_of_mem _ hk)
    unfold wordOf rnF at ih ⊢
    rw [List.map_cons, List.find?_cons, List.find?_cons]
    by_cases e : p.1 = d
    · have e' : ren π p.1 = ren π d := by rw [e]
      simp only [decide_eq_true e, decide_eq_true e']; rfl
    · have e' : ¬ ren π p.1 = ren π d := fun z => e (h.ren_inj hp hd z)
      simp only [decide_eq_false e, decide_eq_false e']
      exact ih
def rnP (π : List Int) (fm : FW × List (List Int)) : FW × List (List Int) := (rnF π fm.1, fm.2.map (ren π))
theorem Nm.step (h : Nm S π) {d m : List Int} {n : Nat} {fm : FW × List (List Int)} (hd : Dd S d) (hm : Dd S m) (hf : ∀ k ∈ keysF fm.1, Dd S k) : fStep (ren π d) (rnP π fm) n (ren π m) = rnP π (fStep d fm n m) := by
  have e1 := h.word (thenL_dd hd hm) hf
  have e2 := h.word hd hf
  unfold fStep
  rw [h.ren_then hd hm]
  show (if (wordOf (rnF π fm.1) (ren π (thenL d m))).isSome = true then rnP π fm else _) = _
  rw [e1]
  by_cases c : (wordOf fm.1 (thenL d m)).isSome = true
  · rw [if_pos c, if_pos c]
  · rw [if_neg c, if_neg c]
    unfold rnP rnF
    show (_ ++ [(_, (wordOf (rnF π fm.1) (ren π d)).getD [] ++ [(n : Int)])], _) = _
    rw [e2]
    simp only [List.map_append, List.map_cons, List.map_nil]
theorem getD_ren {ms : List (List Int)} {i : Nat} (hi : i < ms.length) : (ms.map (ren π)).getD i [] = ren π (ms.getD i []) := by
  rw [List.getD_eq_getElem?_getD, List.getD_eq_getElem?_getD, List.getElem?_map, List.getElem?_eq_getElem hi]; rfl
variable {ms : List (List Int)}
theorem Nm.row (h : Nm S π) (hM : Mks ms S) {d : List Int} {fm : FW × List (List Int)} (hd : Word ms S d) (hf : GoodF ms S fm.1) : ∀ i, i ≤ ms.length → fRow (ms.map (ren π)) (ren π d) i (rnP π fm) = rnP π (fRow ms d i fm)
  | 0, _ => rfl
  | i + 1, hi => by
    have ih := h.row hM hd hf i (by omega)
    show fStep (ren π d) (fRow (ms.map (ren π)) (ren π d) i (rnP π fm)) i ((ms.map (ren π)).getD i []) = rnP π (fStep d (fRow ms d i fm) i (ms.getD i []))
    rw [ih, getD_ren (by omega)]
    exact h.step (hd.dd hM) (hM _ (getD_mem (by omega))) fun k hk => ((fRow_good hf hd i (by omega)).wd k hk).dd hM
theorem Nm.pass (h : Nm S π) (hM : Mks ms S) {last : List (List Int)} {fm : FW × List (List Int)} (hd : ∀ d ∈ last, Word ms S d) (hf : GoodF ms S fm.1) : ∀ j, j ≤ last.length → fPass (ms.map (ren π)) (last.map (ren π)) j (rnP π fm) = rnP π (fPass ms last j fm)
  | 0, _ => rfl
  | j + 1, hj => by
    have ih := h.pass hM hd hf j (by omega)
    show fRow (ms.map (ren π)) ((last.map (ren π)).getD j []) (ms.map (ren π)).length (fPass (ms.map (ren π)) (last.map (ren π)) j (rnP π fm)) = rnP π (fRow ms (last.getD j []) ms.length (fPass ms last j fm))
    rw [ih, getD_ren (by omega), List.length_map]
    exact h.row hM (hd _ (getD_mem (by omega))) (fPass_good hf hd j (by omega)) _ (Nat.le_refl _)
theorem Nm.few (h : Nm S π) (hM : Mks ms S) (hf : Few ms S) : Few (ms.map (ren π)) S := by
  obtain ⟨l, hl, ha⟩ := hf
  refine ⟨l.map (ren π), by rw [List.length_map]; exact hl, fun d hd => ?_⟩
  have key : ∃ d', Word ms S d' ∧ ren π d' = d := by
    induction hd with
    | id => exact ⟨_, .id, h.ren_id⟩
    | more _ hm ih =>
      obtain ⟨d', hd', rfl⟩ := ih
      obtain ⟨m', hm', rfl⟩ := List.mem_map.mp hm
      exact ⟨_, .more hd' hm', (h.ren_then (hd'.dd hM) (hM m' hm')).symm⟩
  obtain ⟨d', hd', rfl⟩ := key
  exact List.mem_map.mpr ⟨d', ha d' hd', rfl⟩
theorem Nm.ixF (h : Nm S π) {d : List Int} (hd : Dd S d) : ∀ {fam : List (List Int)}, (∀ k ∈ fam, Dd S k) → ixF (fam.map (ren π)) (ren π d) = L3.ixF fam d
  | [], _ => rfl
  | k :: fam, hf => by
    have ih := h.ixF hd (fam := fam) fun k hk => hf k (List.mem_cons_of_mem _ hk)
    rw [List.map_cons]
    unfold L3.ixF
    by_cases e : k = d
    · rw [if_pos e, if_pos (by rw [e])]
    · rw [if_neg e, if_neg (fun z => e (h.ren_inj (hf k List.mem_cons_self) hd z)), ih]
theorem Nm.own (h : Nm S π) {fam : List (List Int)} (hF : Fam S fam) : ownT (fam.map (ren π)) = ownT fam := by
  unfold ownT
  rw [List.map_map]
  refine List.map_congr_left fun a ha => ?_
  show (fam.map (ren π)).map (fun b => (L3.ixF (fam.map (ren π)) (thenL (ren π a) b) : Int)) = _
  rw [List.map_map]
  refine List.map_congr_left fun b hb => ?_
  show ((L3.ixF (fam.map (ren π)) (thenL (ren π a) (ren π b)) : Nat) : Int) = _
  rw [h.ren_then (hF.dd a ha) (hF.dd b hb), h.ixF (thenL_dd (hF.dd a ha) (hF.dd b hb)) hF.dd]
end
theorem Word.sub {ms ms' : List (List Int)} {S : Nat} (hM : Mks ms' S) (h : ∀ m ∈ ms, Word ms' S m) {d : List Int} (hd : Word ms S d) : Word ms' S d := by
  induction hd with
  | id => exact .id
  | more _ hm ih => exact ih.mul hM (h _ hm)
theorem Few.sub {ms ms' : List (List Int)} {S : Nat} (hM : Mks ms S) (h2 : ∀ m ∈ ms', Word ms S m) (hf : Few ms S) : Few ms' S := by
  obtain ⟨l, hl, ha⟩ := hf
  exact ⟨l, hl, fun d hd => ha d (hd.sub hM h2)⟩
theorem KvF.vals {K : PySem.W.Frag} {H : Hp} : ∀ {kvs : List (List Key × V)} {f : FW}, KvF K H kvs f → AllR (BoardAt K H) (kvs.map (·.2)) (f.map (·.2))
  | [], [], _ => trivial
  | _ :: _, _ :: _, ⟨h, t⟩ => ⟨h.2, t.vals⟩
  | [], _ :: _, h => h.elim
  | _ :: _, [], h => h.elim
def sp_words69 (K : PySem.W.Frag) : Sp := sp1 fun x H Q => ∃ (ms : List (List Int)) (S : Nat), MksAt K H x ms S ∧ ∀ y f H', Grow [] H H' → RowsAt K H' y (f.map (·.2)) → FamL ms S f → Q y H'
section
variable {K : PySem.W.Frag} {H H' : Hp} {x : V} {rows : List (List Int)}
theorem rowsL_dep : (PyData.list (rows.map rowD)).depth ≤ 100 := Nat.le_trans (Nat.succ_le_succ (dep_rows rows)) (by decide)
end
theorem MksAt.turn {K : PySem.W.Frag} {H H' : Hp} {x y : V} {ms ms' : List (List Int)} {S : Nat} (h : MksAt K H x ms S) (r : RowsAt K H' y ms') (w : ∀ m ∈ ms', Word ms S m) (m1 : 1 ≤ ms'.length) (m4 : ms'.length ≤ 4) : MksAt K H' y ms' S :=
  ⟨r, fun m hm => (w m hm).dd h.ok, h.s1, h.s5, m1, m4, Few.sub h.ok w h.few⟩
end L3

namespace L3
open PySem PySem.Spec PyProof.Rows L2
theorem mk_step68 {d : Deed} (ok : d.Ok) (v : Int) : d.mk' v ≤ d.mk' (v + 1) ∧ d.mk' (v + 1) ≤ d.mk' v + 1 := by
  refine ⟨mk_mono (by omega), ?_⟩
  obtain ⟨a, lo, hi⟩ := d
  show clampHi hi (clampLo lo (v + 1 + a)) ≤ clampHi hi (clampLo lo (v + a)) + 1
  cases lo with
  | none =>
    cases hi with
    | none => show v + 1 + a ≤ v + a + 1; omega
    | some h => show (if h < v + 1 + a then h else v + 1 + a) ≤ (if h < v + a then h else v + a) + 1; split <;> split <;> omega
  | some l =>
    cases hi with
    | none => show (if l > v + 1 + a then l else v + 1 + a) ≤ (if l > v + a then l else v + a) + 1; split <;> split <;> omega
    | some h =>
      have o : l < h ∨ (l = h ∧ a = 0) := ok l h rfl rfl
      show (if h < (if l > v + 1 + a then l else v + 1 + a) then h else (if l > v + 1 + a then l else v + 1 + a)) ≤ (if h < (if l > v + a then l else v + a) then h else (if l > v + a then l else v + a)) + 1
      repeat' split
      all_goals omega
theorem inc68 {d : Deed} (ok : d.Ok) (v : Int) : d.mk' (v + 1) = d.mk' v + 1 ↔ (∀ l, d.lo = some l → l ≤ v + d.add) ∧ ∀ h, d.hi = some h → v + d.add < h := by
  obtain ⟨a, lo, hi⟩ := d
  show clampHi hi (clampLo lo (v + 1 + a)) = clampHi hi (clampLo lo (v + a)) + 1 ↔ (∀ l, lo = some l → l ≤ v + a) ∧ ∀ h, hi = some h → v + a < h
  cases lo with
  | none =>
    cases hi with
    | none => exact ⟨fun _ => ⟨(fun _ z => nomatch z), (fun _ z => nomatch z)⟩, fun _ => by show v + 1 + a = v + a + 1; omega⟩
    | some h =>
      refine ⟨fun e => ⟨(fun _ z => nomatch z), fun h' z => ?_⟩, fun e => ?_⟩
      · cases z
        have e' : (if h < v + 1 + a then h else v + 1 + a) = (if h < v + a then h else v + a) + 1 := e
        split at e' <;> split at e' <;> omega
      · have := e.2 h rfl
        show (if h < v + 1 + a then h else v + 1 + a) = (if h < v + a then h else v + a) + 1
        split <;> split <;> omega
  | some l =>
    cases hi with
    | none =>
      refine ⟨fun e => ⟨fun l' z => ?_, (fun _ z => nomatch z)⟩, fun e => ?_⟩
      · cases z
        have e' : (if l > v + 1 + a then l else v + 1 + a) = (if l > v + a then l else v + a) + 1 := e
        split at e' <;> split at e' <;> omega
      · have := e.1 l rfl
        show (if l > v + 1 + a then l else v + 1 + a) = (if l > v + a then l else v + a) + 1
        split <;> split <;> omega
    | some h =>
      have o : l < h ∨ (l = h ∧ a = 0) := ok l h rfl rfl
      have key : ((if h < (if l > v + 1 + a then l else v + 1 + a) then h else (if l > v + 1 + a then l else v + 1 + a)) = (if h < (if l > v + a then l else v + a) then h else (if l > v + a then l else v + a)) + 1) ↔ l ≤ v + a ∧ v + a < h := by
        constructor
        · intro e
          repeat' (split at e)
          all_goals omega
        · intro e
          repeat' split
          all_goals omega
      refine ⟨fun e => ?_, fun e => key.mpr ⟨e.1 l rfl, e.2 h rfl⟩⟩
      obtain ⟨h1, h2⟩ := key.mp e
      exact ⟨fun l' z => by cases z; exact h1, fun h' z => by cases z; exact h2⟩
theorem mid68 {d : Deed} (ok : d.Ok) {i j k : Int} (h1 : i ≤ j) (h2 : j ≤ k) (e1 : d.mk' (i + 1) = d.mk' i + 1) (e2 : d.mk' (k + 1) = d.mk' k + 1) : d.mk' (j + 1) = d.mk' j + 1 := by
  obtain ⟨a1, _⟩ := (inc68 ok i).mp e1
  obtain ⟨_, b2⟩ := (inc68 ok k).mp e2
  exact (inc68 ok j).mpr ⟨fun l z => by have := a1 l z; omega, fun h z => by have := b2 h z; omega⟩
def tabD (S : Nat) (d : Deed) : List Int := (List.range S).map fun i : Nat => d.mk' (i : Int)
def Kp68 (S : Nat) (d : Deed) : Prop := d.Ok ∧ ∀ i : Int, 0 ≤ i → i < S → 0 ≤ d.mk' i ∧ d.mk' i < S
theorem tab_get68 {S : Nat} {d : Deed} {i : Nat} (h : i < S) : (tabD S d)[i]? = some (d.mk' (i : Int)) := by
  unfold tabD; rw [List.getElem?_map, List.getElem?_range h]; rfl
theorem tab_getD68 {S : Nat} {d : Deed} {i : Int} (h0 : 0 ≤ i) (h : i < S) : (tabD S d).getD i.toNat 0 = d.mk' i := by
  rw [List.getD_eq_getElem?_getD, tab_get68 (by omega)]
  show d.mk' ((i.toNat : Nat) : Int) = _
  rw [Int.toNat_of_nonneg h0]
theorem tab_len68 {S : Nat} {d : Deed} : (tabD S d).length = S := by unfold tabD; rw [List.length_map, List.length_range]
theorem tab_dd68 {S : Nat} {d : Deed} (h : Kp68 S d) : Dd S (tabD S d) := by
  refine ⟨tab_len68, fun v hv => ?_⟩
  obtain ⟨i, hi, rfl⟩ := List.mem_map.mp hv
  exact h.2 i (by omega) (by have := List.mem_range.mp hi; omega)
theorem look68 {S : Nat} : Kp68 S look := ⟨(fun _ _ z => nomatch z), fun i h0 h1 => by
  have e : look.mk' i = i := look_mk i
  rw [e]; exact ⟨h0, h1⟩⟩
theorem tab_look68 {S : Nat} : tabD S look = idL S := by
  unfold tabD idL
  exact List.map_congr_left fun i _ => look_mk _
theorem Kp68.join {S : Nat} {a b : Deed} (ha : Kp68 S a) (hb : Kp68 S b) : Kp68 S (joinD a b) := ⟨joinD_ok ha.1 hb.1, fun i h0 h1 => by
  rw [joinD_mk ha.1 hb.1]
  exact hb.2 _ (ha.2 i h0 h1).1 (ha.2 i h0 h1).2⟩
theorem tab_join68 {S : Nat} {a b : Deed} (ha : Kp68 S a) (hb : b.Ok) : tabD S (joinD a b) = thenL (tabD S a) (tabD S b) := by
  unfold thenL
  conv => rhs; unfold tabD
  rw [List.map_map]
  refine List.map_congr_left fun i hi => ?_
  have hi' := List.mem_range.mp hi
  have h := ha.2 i (by omega) (by omega)
  show (joinD a b).mk' i = (tabD S b).getD (a.mk' i).toNat 0
  rw [joinD_mk ha.1 hb, tab_getD68 h.1 h.2]
def allT (S : Nat) : Nat → List (List Int)
  | 0 => [[]]
  | n + 1 => (List.range S).flatMap fun v : Nat => (allT S n).map fun t => (v : Int) :: t
theorem all_mem68 {S : Nat} : ∀ {t : List Int}, Rng S t → t ∈ allT S t.length
  | [], _ => List.mem_singleton.mpr rfl
  | v :: t, h => by
    have hv := h v (List.mem_cons_self ..)
    refine List.mem_flatMap.mpr ⟨v.toNat, List.mem_range.mpr (by omega), List.mem_map.mpr ⟨t, all_mem68 fun x hx => h x (List.mem_cons_of_mem _ hx), ?_⟩⟩
    rw [Int.toNat_of_nonneg hv.1]
def adj68 (t : List Int) (i : Nat) : Bool := decide (t.getD i 0 ≤ t.getD (i + 1) 0) && decide (t.getD (i + 1) 0 ≤ t.getD i 0 + 1)
def inc68B (t : List Int) (i : Nat) : Bool := decide (t.getD (i + 1) 0 = t.getD i 0 + 1)
def shp68 (t : List Int) : Bool := (List.range (t.length - 1)).all (adj68 t) && (List.range (t.length - 1)).all fun i => (List.range (t.length - 1)).all fun j => (List.range (t.length - 1)).all fun k => !(decide (i ≤ j) && decide (j ≤ k) && inc68B t i && inc68B t k) || inc68B t j
theorem few68 : ∀ S : Fin 6, ((allT S.val S.val).filter shp68).length ≤ 60 := by decide +kernel
theorem shp_tab68 {S : Nat} {d : Deed} (ok : d.Ok) : shp68 (tabD S d) = true := by
  have g : ∀ i : Nat, i < S → (tabD S d).getD i 0 = d.mk' (i : Int) := fun i hi => by rw [List.getD_eq_getElem?_getD, tab_get68 hi]; rfl
  unfold shp68
  rw [tab_len68, Bool.and_eq_true]
  refine ⟨List.all_eq_true.mpr fun i hi => ?_, List.all_eq_true.mpr fun i hi => List.all_eq_true.mpr fun j hj => List.all_eq_true.mpr fun k hk => ?_⟩
  · have := List.mem_range.mp hi
    unfold adj68
    rw [g i (by omega), g (i + 1) (by omega), Bool.and_eq_true, decide_eq_true_iff, decide_eq_true_iff]
    exact mk_step68 ok i
  · have := List.mem_range.mp hi
    have := List.mem_range.mp hj
    have := List.mem_range.mp hk
    unfold inc68B
    rw [g i (by omega), g (i + 1) (by omega), g j (by omega), g (j + 1) (by omega), g k (by omega), g (k + 1) (by omega)]
    by_cases c : d.mk' ((j + 1 : Nat) : Int) = d.mk' (j : Int) + 1
    · rw [decide_eq_true c, Bool.or_true]
    · rw [Bool.or_eq_true]
      refine .inl ?_
      rw [Bool.not_eq_true']
      rw [Bool.eq_false_iff]
      intro z
      simp only [Bool.and_eq_true, decide_eq_true_iff] at z
      exact c (mid68 ok (i := i) (j := j) (k := k) (by omega) (by omega) z.1.2 z.2)
theorem word_tab68 {S : Nat} {ds : List Deed} (hd : ∀ d ∈ ds, Kp68 S d) {t : List Int} (h : Word (ds.map (tabD S)) S t) : ∃ x, Kp68 S x ∧ t = tabD S x := by
  induction h with
  | id => exact ⟨look, look68, tab_look68.symm⟩
  | more _ hm ih =>
    obtain ⟨x, hx, rfl⟩ := ih
    obtain ⟨d, hdm, rfl⟩ := List.mem_map.mp hm
    exact ⟨joinD x d, hx.join (hd d hdm), (tab_join68 hx (hd d hdm).1).symm⟩
theorem few_tab68 {S : Nat} (s5 : S ≤ 5) {ds : List Deed} (hd : ∀ d ∈ ds, Kp68 S d) : Few (ds.map (tabD S)) S := by
  refine ⟨(allT S S).filter shp68, few68 ⟨S, by omega⟩, fun t ht => ?_⟩
  obtain ⟨x, hx, rfl⟩ := word_tab68 hd ht
  refine List.mem_filter.mpr ⟨?_, shp_tab68 hx.1⟩
  have := all_mem68 (tab_dd68 hx).2
  rw [tab_len68] at this; exact this
def wordM (ms : List (List Int)) (S : Nat) (w : List Int) : List Int := w.foldl (fun acc n => thenL acc (ms.getD n.toNat [])) (idL S)
def WM (ms : List (List Int)) (S : Nat) (f : FW) : Prop := ∀ p ∈ f, p.1 = wordM ms S p.2 ∧ ∀ n ∈ p.2, 0 ≤ n ∧ n < (ms.length : Int)
theorem fStep_wm {ms : List (List Int)} {S : Nat} {d : List Int} {fm : FW × List (List Int)} {n : Nat} (h : WM ms S fm.1) (hd : d ∈ keysF fm.1) (hn : n < ms.length) : WM ms S (fStep d fm n (ms.getD n [])).1 := by
  unfold fStep
  split
  · exact h
  · intro p hp
    rcases List.mem_append.mp hp with z | z
    · exact h p z
    · rw [List.mem_singleton.mp z]
      obtain ⟨w, hw⟩ := wordOf_some hd
      obtain ⟨e1, e2⟩ := h _ (wordOf_in hw)
      rw [hw]
      refine ⟨?_, fun m hm => ?_⟩
      · show thenL d (ms.getD n []) = wordM ms S (w ++ [(n : Int)])
        unfold wordM
        rw [List.foldl_append, List.foldl_cons, List.foldl_nil, Int.toNat_natCast]
        exact congrArg (fun z => thenL z (ms.getD n [])) e1
      · rcases List.mem_append.mp hm with z | z
        · exact e2 m z
        · rw [List.mem_singleton.mp z]; omega
theorem fRow_wm {ms : List (List Int)} {S : Nat} {d : List Int} {fm : FW × List (List Int)} (h : WM ms S fm.1) (hd : d ∈ keysF fm.1) : ∀ i, i ≤ ms.length → WM ms S (fRow ms d i fm).1
  | 0, _ => h
  | i + 1, hi => fStep_wm (fRow_wm h hd i (by omega)) ((fRow_ex i).keys hd) (by omega)
theorem fPass_wm {ms last : List (List Int)} {S : Nat} {fm : FW × List (List Int)} (h : WM ms S fm.1) (hd : ∀ d ∈ last, d ∈ keysF fm.1) : ∀ j, j ≤ last.length → WM ms S (fPass ms last j fm).1
  | 0, _ => h
  | j + 1, hj => fRow_wm (fPass_wm h hd j (by omega)) ((fPass_ex j).keys (hd _ (getD_mem (by omega)))) _ (Nat.le_refl _)
theorem FamR.wm {ms last : List (List Int)} {S : Nat} {f r : FW} (a : FamR ms f last r) (hl : ∀ d ∈ last, d ∈ keysF f) (h : WM ms S f) : WM ms S r := by
  induction a with
  | done _ => exact h
  | @step f r last _ _ _ ih =>
    refine ih (fun d hd => ?_) (fPass_wm h hl _ (Nat.le_refl _))
    obtain ⟨g, e1, e2⟩ : Ex (f, []) (fPass ms last last.length (f, [])) := fPass_ex _
    rw [e2, List.nil_append] at hd
    rw [e1]; unfold keysF at *
    rw [List.map_append]
    exact List.mem_append.mpr (.inr hd)
theorem FamL.wm {ms : List (List Int)} {S : Nat} {f : FW} (a : FamL ms S f) : WM ms S f := FamR.wm a (fun d hd => hd) fun p hp => by
  rw [List.mem_singleton.mp hp]
  exact ⟨rfl, (fun n hn => nomatch hn)⟩
def madeW (ds : List Deed) (w : List Int) : Deed := w.foldl (fun acc n => joinD acc (ds.getD n.toNat look)) look
theorem made_tab68 {S : Nat} {ds : List Deed} (hd : ∀ d ∈ ds, Kp68 S d) : ∀ (w : List Int) (x : Deed), (∀ n ∈ w, 0 ≤ n ∧ n < (ds.length : Int)) → Kp68 S x → Kp68 S (w.foldl (fun acc n => joinD acc (ds.getD n.toNat look)) x) ∧ tabD S (w.foldl (fun acc n => joinD acc (ds.getD n.toNat look)) x) = w.foldl (fun acc n => thenL acc ((ds.map (tabD S)).getD n.toNat [])) (tabD S x)
  | [], x, _, hx => ⟨hx, rfl⟩
  | n :: w, x, hn, hx => by
    have h := hn n (List.mem_cons_self ..)
    have hl : n.toNat < ds.length := by omega
    have e : ds.getD n.toNat look = ds[n.toNat] := by rw [List.getD_eq_getElem?_getD, List.getElem?_eq_getElem hl]; rfl
    have e2 : (ds.map (tabD S)).getD n.toNat [] = tabD S ds[n.toNat] := by rw [List.getD_eq_getElem?_getD, List.getElem?_map, List.getElem?_eq_getElem hl]; rfl
    have hk := hd _ (List.getElem_mem hl)
    rw [List.foldl_cons, List.foldl_cons, e, e2, ← tab_join68 hx hk.1]
    exact made_tab68 hd w _ (fun m hm => hn m (List.mem_cons_of_mem _ hm)) (hx.join hk)
theorem made68 {S : Nat} {ds : List Deed} (hd : ∀ d ∈ ds, Kp68 S d) {f : FW} (a : FamL (ds.map (tabD S)) S f) : ∀ p ∈ f, Kp68 S (madeW ds p.2) ∧ tabD S (madeW ds p.2) = p.1 := fun p hp => by
  obtain ⟨e1, e2⟩ := a.wm p hp
  obtain ⟨h1, h2⟩ := made_tab68 hd p.2 look (fun n hn => by have := e2 n hn; rw [List.length_map] at this; exact this) look68
  refine ⟨h1, ?_⟩
  rw [tab_look68] at h2
  exact h2.trans e1.symm
theorem small68 {n : Nat} (h : n ≤ 1000) : n < sizeLine := Nat.lt_of_le_of_lt h (by decide)
theorem atI_nat68 {xs : List V} {j : Nat} {v : V} (h : xs[j]? = some v) : atI xs (j : Int) = some v := ixGet (ixN_nat (by omega) (List.getElem?_eq_some_iff.mp h).1) h
def sp_deed68 (K : PySem.W.Frag) : Sp := sp2 fun x y H Q => ∃ (a : Addr) (S : Nat), x = .ref a ∧ y = .int S ∧ 1 ≤ S ∧ S ≤ 5 ∧ Pot H a ∧ ∀ d y' H', Grow [a] H H' → Pot H' a → DeedAt K H' y' d → Kp68 S d → Q y' H'
def sp_byt68 (K : PySem.W.Frag) : Sp := sp2 fun x y H Q => ∃ (d : Deed) (S : Nat), DeedAt K H x d ∧ d.Ok ∧ y = .int S ∧ S ≤ 5 ∧ ∀ y' H', Grow [] H H' → BoardAt K H' y' (tabD S d) → Q y' H'
def sp_made68 (K : PySem.W.Frag) : Sp := sp2 fun x y H Q => ∃ (l : Addr) (xs : List V) (ds : List Deed) (w : List Int), x = .ref l ∧ H l = some (.lst xs) ∧ AllR (DeedAt K H) xs ds ∧ AllOk ds ∧ BoardAt K H y w ∧ (∀ n ∈ w, 0 ≤ n ∧ n < (ds.length : Int)) ∧ ∀ y' H', Grow [] H H' → DeedAt K H' y' (madeW ds w) → Q y' H'
theorem kp_lh68 {S : Nat} {ad lo hi : Int} (h0 : 0 ≤ lo) (h1 : lo < hi ∨ (lo = hi ∧ ad = 0)) (h2 : hi < S) : Kp68 S ⟨ad, some lo, some hi⟩ := by
  refine ⟨fun l h e1 e2 => ?_, fun v _ _ => ?_⟩
  · cases e1; cases e2; exact h1
  · show 0 ≤ (if hi < (if lo > v + ad then lo else v + ad) then hi else (if lo > v + ad then lo else v + ad)) ∧ (if hi < (if lo > v + ad then lo else v + ad) then hi else (if lo > v + ad then lo else v + ad)) < (S : Int)
    repeat' split
    all_goals omega
theorem AllR.okD68 {α : Type} {K : PySem.W.Frag} {H : Hp} {xs : List V} {ds : List Deed} (h : AllR (DeedAt K H) xs ds) {i : Nat} (hi : i < ds.length) : ∃ x, xs[i]? = some x ∧ DeedAt K H x (ds.getD i look) := by
  obtain ⟨x, h1, h2⟩ := h.getR (List.getElem?_eq_getElem hi)
  refine ⟨x, h1, ?_⟩
  rw [List.getD_eq_getElem?_getD, List.getElem?_eq_getElem hi]; exact h2
theorem comp_listG68 {K : PySem.W.Frag} {a : Addr} {xs : List V} {g : TG} {te : TE} {Q : VK} {σ : L2.St} {H : Hp} (Pv : Nat → List V → L2.St → Hp → Prop) (h0 : Pv 0 [] σ H) (hl : ∀ i ys σ H, i ≤ xs.length → Pv i ys σ H → SqL K H a xs)
    (hs : ∀ i x ys σ H, xs[i]? = some x → Pv i ys σ H → g x σ H fun σ2 H3 => te σ2 H3 fun y H5 => ys.length < sizeLine ∧ Pv (i + 1) (ys ++ [y]) σ2 H5)
    (hd : ∀ ys σ H, Pv xs.length ys σ H → ∀ l, H l = none → Q (.ref l) (upd H l (.lst ys))) : CompW (Itl K a) σ H g tTrue te Q := comp_list Pv h0 hl (fun i x ys σ H hx hp => hs i x ys σ H hx hp) hd
theorem comp_tupG68 {K : PySem.W.Frag} {a : Addr} {xs : List V} {g : TG} {te : TE} {Q : VK} {σ : L2.St} {H : Hp} (Pv : Nat → List V → L2.St → Hp → Prop) (h0 : Pv 0 [] σ H) (hl : ∀ i ys σ H, i ≤ xs.length → Pv i ys σ H → SqT K H a xs)
    (hs : ∀ i x ys σ H, xs[i]? = some x → Pv i ys σ H → g x σ H fun σ2 H3 => te σ2 H3 fun y H5 => ys.length < sizeLine ∧ Pv (i + 1) (ys ++ [y]) σ2 H5)
    (hd : ∀ ys σ H, Pv xs.length ys σ H → ∀ l, H l = none → Q (.ref l) (upd H l (.lst ys))) : CompW (Itt K a) σ H g tTrue te Q := comp_tup Pv h0 hl (fun i x ys σ H hx hp => hs i x ys σ H hx hp) hd
theorem runA_map68 : ∀ (ds : List Deed) (v : Int), runA ds v = (List.range ds.length).map fun j => runV (ds.take j) v
  | [], _ => rfl
  | d :: ds, v => by
    show v :: runA ds (d.mk' v) = _
    rw [runA_map68 ds, List.length_cons, List.range_succ_eq_map, List.map_cons, List.map_map]
    rfl
section
variable {S : Nat} {fam : List (List Int)} {ns : List Int} {W : List Deed}
theorem whole_tab68 (hW : ∀ n : Nat, n < fam.length → Kp68 S (W.getD n look) ∧ tabD S (W.getD n look) = fam.getD n []) (hR : Rng fam.length ns) : ∀ j, j ≤ ns.length → Kp68 S (runD ((ns.map fun n => W.getD n.toNat look).take j)) ∧ wholeN S fam ns j = tabD S (runD ((ns.map fun n => W.getD n.toNat look).take j))
  | 0, _ => ⟨look68, tab_look68.symm⟩
  | j + 1, hj => by
    obtain ⟨h1, h2⟩ := whole_tab68 hW hR j (by omega)
    have hjl : j < ns.length := by omega
    have e : (ns.map fun n => W.getD n.toNat look).take (j + 1) = (ns.map fun n => W.getD n.toNat look).take j ++ [W.getD ns[j].toNat look] := by
      rw [List.take_succ, List.getElem?_map, List.getElem?_eq_getElem hjl]; rfl
    have hr := hR _ (List.getElem_mem hjl)
    obtain ⟨k1, k2⟩ := hW ns[j].toNat (by omega)
    have ed : runD ((ns.map fun n => W.getD n.toNat look).take (j + 1)) = joinD (runD ((ns.map fun n => W.getD n.toNat look).take j)) (W.getD ns[j].toNat look) := by
      unfold runD; rw [e, List.foldl_append]; rfl
    rw [ed]
    refine ⟨h1.join k1, ?_⟩
    show thenL (wholeN S fam ns j) (fam.getD (ns.getD j 0).toNat []) = _
    rw [tab_join68 h1 k1.1, ← h2, k2, List.getD_eq_getElem?_getD (l := ns), List.getElem?_eq_getElem hjl]
    rfl
theorem run68 (hW : ∀ n : Nat, n < fam.length → Kp68 S (W.getD n look) ∧ tabD S (W.getD n look) = fam.getD n []) (hR : Rng fam.length ns) {st : Int} (s0 : 0 ≤ st) (s1 : st < S) : runA (ns.map fun n => W.getD n.toNat look) st = st65 S fam ns st 0 ns.length := by
  have ok : AllOk (ns.map fun n => W.getD n.toNat look) := fun d hd => by
    obtain ⟨n, hn, rfl⟩ := List.mem_map.mp hd
    have := hR n hn
    exact (hW n.toNat (by omega)).1.1
  rw [runA_map68, List.length_map]
  unfold st65
  refine List.map_congr_left fun j hj => ?_
  have hj' := List.mem_range.mp hj
  obtain ⟨h1, h2⟩ := whole_tab68 hW hR j (by omega)
  rw [Nat.zero_add, h2, tab_getD68 s0 s1, runD_mk fun d hd => ok d (List.mem_of_mem_take hd)]
theorem getD_map68 {f : FW} {ds : List Deed} {n : Nat} (h : n < f.length) : (f.map fun p => madeW ds p.2).getD n look = madeW ds f[n].2 := by
  rw [List.getD_eq_getElem?_getD, List.getElem?_map, List.getElem?_eq_getElem h]; rfl
theorem wholes68 {ds : List Deed} (hd : ∀ d ∈ ds, Kp68 S d) {f : FW} (a : FamL (ds.map (tabD S)) S f) : ∀ n : Nat, n < (keysF f).length → Kp68 S ((f.map fun p => madeW ds p.2).getD n look) ∧ tabD S ((f.map fun p => madeW ds p.2).getD n look) = (keysF f).getD n [] := fun n hn => by
  have hn' : n < f.length := by unfold keysF at hn; rw [List.length_map] at hn; exact hn
  have h := made68 hd a _ (List.getElem_mem hn')
  rw [getD_map68 hn']
  refine ⟨h.1, ?_⟩
  rw [h.2]; unfold keysF
  rw [List.getD_eq_getElem?_getD, List.getElem?_map, List.getElem?_eq_getElem hn']; rfl
theorem wholes_tab68 {ds : List Deed} (hd : ∀ d ∈ ds, Kp68 S d) {f : FW} (a : FamL (ds.map (tabD S)) S f) : (f.map fun p => madeW ds p.2).map (tabD S) = keysF f := by
  unfold keysF; rw [List.map_map]
  exact List.map_congr_left fun p hp => (made68 hd a p hp).2
end
theorem row68 {S : Nat} {fam : List (List Int)} {W : List Deed} (hF : Fam S fam) (hW : ∀ n : Nat, n < fam.length → Kp68 S (W.getD n look) ∧ tabD S (W.getD n look) = fam.getD n []) (hl : W.length = fam.length) {i : Nat} (hi : i < fam.length) : (W.map fun w => tabD S (joinD (W.getD i look) w)) = ((ownT fam).getD i []).map fun n => fam.getD n.toNat [] := by
  have e1 : (ownT fam).getD i [] = fam.map fun b => (ixF fam (thenL (fam.getD i []) b) : Int) := by
    unfold ownT
    rw [List.getD_eq_getElem?_getD, List.getElem?_map, List.getElem?_eq_getElem hi, Option.map_some, Option.getD_some, List.getD_eq_getElem?_getD, List.getElem?_eq_getElem hi, Option.getD_some]
  rw [e1, List.map_map]
  refine List.ext_getElem? fun j => ?_
  rw [List.getElem?_map, List.getElem?_map]
  by_cases hj : j < fam.length
  · have hjW : j < W.length := by omega
    rw [List.getElem?_eq_getElem hj, List.getElem?_eq_getElem hjW]
    have w1 := hW i hi
    have w2 := hW j hj
    have ew : W.getD j look = W[j] := by rw [List.getD_eq_getElem?_getD, List.getElem?_eq_getElem hjW]; rfl
    have ef : fam.getD j [] = fam[j] := by rw [List.getD_eq_getElem?_getD, List.getElem?_eq_getElem hj]; rfl
    rw [ew, ef] at w2
    show some (tabD S (joinD (W.getD i look) W[j])) = some (fam.getD (((ixF fam (thenL (fam.getD i []) fam[j]) : Nat) : Int)).toNat [])
    rw [tab_join68 w1.1 w2.1.1, w1.2, w2.2, Int.toNat_natCast, ixF_get (hF.cl _ (getD_mem hi) _ (List.getElem_mem hj))]
  · rw [List.getElem?_eq_none (by omega), List.getElem?_eq_none (by omega)]; rfl
theorem ownT_row68 {S : Nat} {fam : List (List Int)} (hF : Fam S fam) {i : Nat} (hi : i < fam.length) : Rng fam.length ((ownT fam).getD i []) ∧ ((ownT fam).getD i []).length = fam.length := by
  have h := (ownT_tab hF).2 ((ownT fam).getD i []) (getD_mem (by rw [(ownT_tab hF).1]; exact hi))
  exact ⟨h.2, h.1⟩
end L3

namespace My
open PySem PySem.Spec PyProof.Rows L2 L3
def top (i : Nat) : Stmt := PySem.Challenge.pw_joinedasks_k68_whole_clamped_adds.main.body.getD i (.Pass ⟨0, 0, 0, 0⟩)
section
variable {P : Program} {w : World} {K : PySem.W.Frag} {mg : Str → Option Value} {base : Heap}
theorem sc_tidy : FnScope ["add", "low", "high"] ["add", "low", "high"] (defScope (top 27)) := ⟨rfl, rfl, rfl, by decide +kernel, rfl, by decide +kernel, by decide +kernel⟩
set_option maxHeartbeats 0 in
theorem ok_tidy {n : Nat} {f : Addr} {fd : FuncData} (F : Fun K "tidy" "tidy" (top 27) f fd) (B : Blt mg)     :
    FnOk P w K mg base CX0 (n + 1) f fd ["add", "low", "high"] (sp_tidy K) := by
  refine F.ok sc_tidy sp3_len (fun cdv A outer s H vs Q E hr h => ?_)
  obtain ⟨x, y, z, rfl, a, lo, hi, rfl, rfl, rfl, q⟩ := h
  refine ⟨_, (pss_cons (ps_if (PW.pt (pw_and (pt_cmp (pc_notN (pv 1))) (pw_and1 (pt_cmpR op_eq (pv 1) (pv 2) (nomark _))))) (pss_one (ps_ret (pe_tup (pa_cons pe_int (pa_cons (pv 1) (pa_cons (pv 2) pa_nil)))))) pss_nil) (pss_one (ps_ret (pe_tup (pa_cons (pv 0) (pa_cons (pv 1) (pa_cons (pv 2) pa_nil))))))), ?_⟩
  cases lo with
  | none =>
    refine ⟨_, rfl, _, rfl, iteF (iteF ⟨_, rfl, _, rfl, _, rfl, szl rfl, fun t ht => ?_⟩)⟩
    have := q t ht
    rw [tidy_n] at this; exact this
  | some l =>
    cases hi with
    | none =>
      refine ⟨_, rfl, _, rfl, iteT ⟨_, rfl, _, rfl, rfl, _, rfl, iteF ⟨_, rfl, _, rfl, _, rfl, szl rfl, fun t ht => ?_⟩⟩⟩
      have := q t ht
      rw [tidy_u (by simp)] at this; exact this
    | some u =>
      refine ⟨_, rfl, _, rfl, iteT ⟨_, rfl, _, rfl, rfl, _, rfl, ?_⟩⟩
      refine ite2 (fun c => ?_) (fun c => ?_)
      · have c' : l = u := V.int.inj (of_decide_eq_true c)
        subst c'
        refine ⟨_, rfl, _, rfl, szl rfl, fun t ht => ?_⟩
        have := q t ht
        rw [tidy_e] at this; exact this
      · have c' : l ≠ u := fun z => c (by rw [z]; simp)
        refine ⟨_, rfl, _, rfl, _, rfl, szl rfl, fun t ht => ?_⟩
        have := q t ht
        rw [tidy_u (fun z => c' (Option.some.inj z))] at this; exact this
theorem sc_made : FnScope ["deed", "value", "add", "low", "high", "result"] ["deed", "value"] (defScope (top 25)) := ⟨rfl, rfl, rfl, by decide +kernel, rfl, by decide +kernel, by decide +kernel⟩
set_option maxHeartbeats 0 in
theorem ok_made {n : Nat} {f : Addr} {fd : FuncData} (F : Fun K "made" "made" (top 25) f fd) (B : Blt mg)     :
    FnOk P w K mg base CX0 (n + 1) f fd ["deed", "value"] (sp_made K) := by
  refine F.ok sc_made sp2_len (fun cdv A outer s H vs Q E hr h => ?_)
  obtain ⟨x, y, rfl, d, v, ⟨a, rfl, hs⟩, rfl, q⟩ := h
  refine ⟨_, (pss_cons (ps_asg (pv 0) (pg_tup rfl (pgs_cons (pg_name (i := 2) sc_made.nd rfl (Or.inl rfl)) (pgs_cons (pg_name (i := 3) sc_made.nd rfl (Or.inl rfl)) (pgs_cons (pg_name (i := 4) sc_made.nd rfl (Or.inl rfl)) pgs_nil))))) (pss_cons (ps_set (i := 5) sc_made.nd rfl (Or.inl rfl) (pe_op op_add (pv 1) (pv 2))) (pss_cons (ps_if (PW.pt (pw_and (pt_cmp (pc_notN (pv 3))) (pw_and1 (pt_cmpR op_gt (pv 3) (pv 5) (nomark _))))) (pss_one (ps_set (i := 5) sc_made.nd rfl (Or.inl rfl) (pv 3))) pss_nil) (pss_cons (ps_if (PW.pt (pw_and (pt_cmp (pc_notN (pv 4))) (pw_and1 (pt_cmpR op_lt (pv 4) (pv 5) (nomark _))))) (pss_one (ps_set (i := 5) sc_made.nd rfl (Or.inl rfl) (pv 4))) pss_nil) (pss_one (ps_ret (pv 5))))))), ?_⟩
  obtain ⟨ad, lo, hi⟩ := d
  refine ⟨_, rfl, a, _, rfl, hs, rfl, _, _, rfl, _, _, rfl, _, _, rfl, rfl, ?_⟩
  refine ⟨_, rfl, _, rfl, _, _, rfl, rfl, ?_⟩
  cases lo with
  | none =>
    refine ⟨_, rfl, _, rfl, iteF (iteF ?_)⟩
    cases hi with
    | none => exact ⟨_, rfl, _, rfl, iteF (iteF ⟨_, rfl, q⟩)⟩
    | some u =>
      refine ⟨_, rfl, _, rfl, iteT ⟨_, rfl, _, rfl, _, _, rfl, rfl, _, rfl, ?_⟩⟩
      have q' : Q (.int (if u < v + ad then u else v + ad)) H := q
      refine ite2 (fun c => ?_) (fun c => ?_)
      · have c' : u < v + ad := of_decide_eq_true c
        rw [if_pos c'] at q'
        exact ⟨_, rfl, _, rfl, q'⟩
      · have c' : ¬ u < v + ad := fun z => c (decide_eq_true z)
        rw [if_neg c'] at q'
        exact ⟨_, rfl, q'⟩
  | some l =>
    refine ⟨_, rfl, _, rfl, iteT ⟨_, rfl, _, rfl, _, _, rfl, rfl, _, rfl, ?_⟩⟩
    have q0 : Q (.int (clampHi hi (if l > v + ad then l else v + ad))) H := q
    clear q
    refine ite2 (fun c => ?_) (fun c => ?_)
    · have c' : l > v + ad := of_decide_eq_true c
      rw [if_pos c'] at q0
      have q := q0
      refine ⟨_, rfl, ?_⟩
      cases hi with
      | none => exact ⟨_, rfl, _, rfl, iteF (iteF ⟨_, rfl, q⟩)⟩
      | some u =>
        refine ⟨_, rfl, _, rfl, iteT ⟨_, rfl, _, rfl, _, _, rfl, rfl, _, rfl, ?_⟩⟩
        have q' : Q (.int (if u < l then u else l)) H := q
        refine ite2 (fun c => ?_) (fun c => ?_)
        · have c' : u < l := of_decide_eq_true c
          rw [if_pos c'] at q'
          exact ⟨_, rfl, _, rfl, q'⟩
        · have c' : ¬ u < l := fun z => c (decide_eq_true z)
          rw [if_neg c'] at q'
          exact ⟨_, rfl, q'⟩
    · have c' : ¬ l > v + ad := fun z => c (decide_eq_true z)
      rw [if_neg c'] at q0
      have q := q0
      cases hi with
      | none => exact ⟨_, rfl, _, rfl, iteF (iteF ⟨_, rfl, q⟩)⟩
      | some u =>
        refine ⟨_, rfl, _, rfl, iteT ⟨_, rfl, _, rfl, _, _, rfl, rfl, _, rfl, ?_⟩⟩
        have q' : Q (.int (if u < v + ad then u else v + ad)) H := q
        refine ite2 (fun c => ?_) (fun c => ?_)
        · have c' : u < v + ad := of_decide_eq_true c
          rw [if_pos c'] at q'
          exact ⟨_, rfl, _, rfl, q'⟩
        · have c' : ¬ u < v + ad := fun z => c (decide_eq_true z)
          rw [if_neg c'] at q'
          exact ⟨_, rfl, q'⟩
theorem sc_joined : FnScope ["one", "other", "low", "high"] ["one", "other"] (defScope (top 28)) := ⟨rfl, rfl, rfl, by decide +kernel, rfl, by decide +kernel, by decide +kernel⟩
set_option maxHeartbeats 0 in
theorem ok_joined {n : Nat} {f : Addr} {fd : FuncData} (F : Fun K "joined" "joined" (top 28) f fd) (B : Blt mg) (c_tidy : Callee P w K mg base n "tidy" ["add", "low", "high"] (sp_tidy K)) (c_made : Callee P w K mg base n "made" ["deed", "value"] (sp_made K))    :
    FnOk P w K mg base CX0 (n + 1) f fd ["one", "other"] (sp_joined K) := by
  refine F.ok sc_joined sp2_len (fun cdv A outer s H vs Q E hr h => ?_)
  obtain ⟨x, y, rfl, d, e, ⟨a, rfl, hsa⟩, ⟨b, rfl, hsb⟩, q⟩ := h
  refine ⟨_, (pss_cons (ps_set (i := 2) sc_joined.nd rfl (Or.inl rfl) (pe_ifExp (pt_cmp (pc_isN (pe_ix ix_tup (pv 0) pe_int (fun _ _ => rfl)))) (pe_ix ix_tup (pv 1) pe_int (fun _ _ => rfl)) (pe_callC c_made hr rfl (pa_cons (pv 1) (pa_cons (pe_ix ix_tup (pv 0) pe_int (fun _ _ => rfl)) pa_nil))))) (pss_cons (ps_set (i := 3) sc_joined.nd rfl (Or.inl rfl) (pe_ifExp (pt_cmp (pc_isN (pe_ix ix_tup (pv 0) pe_int (fun _ _ => rfl)))) (pe_ix ix_tup (pv 1) pe_int (fun _ _ => rfl)) (pe_callC c_made hr rfl (pa_cons (pv 1) (pa_cons (pe_ix ix_tup (pv 0) pe_int (fun _ _ => rfl)) pa_nil))))) (pss_one (ps_ret (pe_callC c_tidy hr rfl (pa_cons (pe_op op_add (pe_ix ix_tup (pv 0) pe_int (fun _ _ => rfl)) (pe_ix ix_tup (pv 1) pe_int (fun _ _ => rfl))) (pa_cons (pv 2) (pa_cons (pv 3) pa_nil)))))))), ?_⟩
  obtain ⟨da, lo, hi⟩ := d
  obtain ⟨ea, elo, ehi⟩ := e
  refine ⟨_, rfl, a, _, _, _, rfl, rfl, hsa, rfl, _, rfl, ?_⟩
  cases lo with
  | none =>
    refine iteT ⟨_, rfl, b, _, _, _, rfl, rfl, hsb, rfl, ?_⟩
    refine ⟨_, rfl, a, _, _, _, rfl, rfl, hsa, rfl, _, rfl, ?_⟩
    cases hi with
    | none =>
      refine iteT ⟨_, rfl, b, _, _, _, rfl, rfl, hsb, rfl, ?_⟩
      exact ⟨_, rfl, a, _, _, _, rfl, rfl, hsa, rfl, _, rfl, b, _, _, _, rfl, rfl, hsb, rfl, _, _, rfl, rfl, _, rfl, _, rfl, _, _, _, rfl, _, elo, ehi, rfl, rfl, rfl, q⟩
    | some u =>
      refine iteF ⟨_, rfl, _, rfl, a, _, _, _, rfl, rfl, hsa, rfl, _, _, rfl, ⟨ea, elo, ehi⟩, u, ⟨b, rfl, hsb⟩, rfl, ?_⟩
      exact ⟨_, rfl, a, _, _, _, rfl, rfl, hsa, rfl, _, rfl, b, _, _, _, rfl, rfl, hsb, rfl, _, _, rfl, rfl, _, rfl, _, rfl, _, _, _, rfl, _, elo, some ((Deed.mk ea elo ehi).mk' u), rfl, rfl, rfl, q⟩
  | some l =>
    refine iteF ⟨_, rfl, _, rfl, a, _, _, _, rfl, rfl, hsa, rfl, _, _, rfl, ⟨ea, elo, ehi⟩, l, ⟨b, rfl, hsb⟩, rfl, ?_⟩
    refine ⟨_, rfl, a, _, _, _, rfl, rfl, hsa, rfl, _, rfl, ?_⟩
    cases hi with
    | none =>
      refine iteT ⟨_, rfl, b, _, _, _, rfl, rfl, hsb, rfl, ?_⟩
      exact ⟨_, rfl, a, _, _, _, rfl, rfl, hsa, rfl, _, rfl, b, _, _, _, rfl, rfl, hsb, rfl, _, _, rfl, rfl, _, rfl, _, rfl, _, _, _, rfl, _, (some ((Deed.mk ea elo ehi).mk' l)), ehi, rfl, rfl, rfl, q⟩
    | some u =>
      refine iteF ⟨_, rfl, _, rfl, a, _, _, _, rfl, rfl, hsa, rfl, _, _, rfl, ⟨ea, elo, ehi⟩, u, ⟨b, rfl, hsb⟩, rfl, ?_⟩
      exact ⟨_, rfl, a, _, _, _, rfl, rfl, hsa, rfl, _, rfl, b, _, _, _, rfl, rfl, hsb, rfl, _, _, rfl, rfl, _, rfl, _, rfl, _, _, _, rfl, _, (some ((Deed.mk ea elo ehi).mk' l)), some ((Deed.mk ea elo ehi).mk' u), rfl, rfl, rfl, q⟩
theorem sc_is_whole : FnScope ["thing"] ["thing"] (defScope (top 8)) := ⟨rfl, rfl, rfl, by decide +kernel, rfl, by decide +kernel, by decide +kernel⟩
set_option maxHeartbeats 0 in
theorem ok_is_whole {n : Nat} {f : Addr} {fd : FuncData} (F : Fun K "is_whole" "is_whole" (top 8) f fd) (B : Blt mg)     :
    FnOk P w K mg base CX0 (n + 1) f fd ["thing"] (sp_is_whole K) := by
  refine F.ok sc_is_whole sp1_len (fun cdv A outer s H vs Q E hr h => ?_)
  obtain ⟨x, rfl, ⟨T, ty⟩, q⟩ := h
  refine ⟨_, (pss_one (ps_ret (pe_and (pe_callB call_isi rfl B.isinstance b_isinstance (pa_cons (pv 0) (pa_cons (pe_tyn rfl B.int b_int) pa_nil))) (pe_one (pe_not (pe_callB call_isi rfl B.isinstance b_isinstance (pa_cons (pv 0) (pa_cons (pe_tyn rfl B.bool b_bool) pa_nil)))))))), ?_⟩
  cases x with
  | non => cases (show T = "NoneType" from ty); exact ⟨_, rfl, _, _, _, false, rfl, rfl, rfl, _, rfl, iteF q⟩
  | bl y => cases (show T = "bool" from ty); exact ⟨_, rfl, _, _, _, true, rfl, rfl, rfl, _, rfl, iteT ⟨_, rfl, _, _, _, true, rfl, rfl, rfl, _, rfl, q⟩⟩
  | int i => cases (show T = "int" from ty); exact ⟨_, rfl, _, _, _, true, rfl, rfl, rfl, _, rfl, iteT ⟨_, rfl, _, _, _, false, rfl, rfl, rfl, _, rfl, q⟩⟩
  | str y => cases (show T = "str" from ty); exact ⟨_, rfl, _, _, _, false, rfl, rfl, rfl, _, rfl, iteF q⟩
  | byt y => exact ty.elim
  | flt y => exact ty.elim
  | ty y => exact ty.elim
  | ref a =>
    rcases ty with ⟨rfl, xs, hq⟩ | ⟨rfl, xs, hq⟩ | ⟨rfl, kvs, hq⟩
    · exact ⟨_, rfl, _, _, _, false, rfl, .inl ⟨rfl, xs, hq⟩, rfl, _, rfl, iteF q⟩
    · exact ⟨_, rfl, _, _, _, false, rfl, .inr (.inl ⟨rfl, xs, hq⟩), rfl, _, rfl, iteF q⟩
    · exact ⟨_, rfl, _, _, _, false, rfl, .inr (.inr ⟨rfl, kvs, hq⟩), rfl, _, rfl, iteF q⟩
theorem sc_share : FnScope ["deeds", "tree", "value", "values", "left", "right"] ["deeds", "tree", "value", "values"] (defScope (top 36)) := ⟨rfl, rfl, rfl, by decide +kernel, rfl, by decide +kernel, by decide +kernel⟩
set_option maxHeartbeats 0 in
theorem ok_share {n : Nat} {f : Addr} {fd : FuncData} (F : Fun K "share" "share" (top 36) f fd) (B : Blt mg) {N : Nat} (c_joined : Callee P w K mg base n "joined" ["one", "other"] (sp_joined K)) (c_share : Callee P w K mg base n "share" ["deeds", "tree", "value", "values"] (sp_share N K)) (c_made : Callee P w K mg base n "made" ["deed", "value"] (sp_made K)) (c_is_whole : Callee P w K mg base n "is_whole" ["thing"] (sp_is_whole K))    :
    FnOk P w K mg base CX0 (n + 1) f fd ["deeds", "tree", "value", "values"] (sp_share (N + 1) K) := by
  refine F.ok sc_share sp4_len (fun cdv A outer s H vs Q E hr h => ?_)
  obtain ⟨x, y, z, u, rfl, ds, t, f0, v0, l, zs, hd, ht, ho, f1, f2, hN, rfl, rfl, hl, hz, q⟩ := h
  refine ⟨_, (pss_cons (ps_if (pt_val (pe_callC c_is_whole hr rfl (pa_cons (pv 1) pa_nil))) (pss_cons (ps_expr (pe_bm PySem.F.plainAttrs_list PySem.F.slot_list_append PySem.F.type_list_append mt_append (pv 3) (pa_cons (pv 2) pa_nil))) (pss_one (ps_ret (pe_ix ix_tup (pv 0) (pv 1) (fun _ _ => rfl))))) pss_nil) (pss_cons (ps_set (i := 4) sc_share.nd rfl (Or.inl rfl) (pe_callC c_share hr rfl (pa_cons (pv 0) (pa_cons (pe_ix ix_tup (pv 1) pe_int (fun _ _ => rfl)) (pa_cons (pv 2) (pa_cons (pv 3) pa_nil)))))) (pss_cons (ps_set (i := 5) sc_share.nd rfl (Or.inl rfl) (pe_callC c_share hr rfl (pa_cons (pv 0) (pa_cons (pe_ix ix_tup (pv 1) pe_int (fun _ _ => rfl)) (pa_cons (pe_callC c_made hr rfl (pa_cons (pv 4) (pa_cons (pv 2) pa_nil))) (pa_cons (pv 3) pa_nil)))))) (pss_one (ps_ret (pe_callC c_joined hr rfl (pa_cons (pv 4) (pa_cons (pv 5) pa_nil)))))))), ?_⟩
  have hd0 := hd
  obtain ⟨r, xs, rfl, hs, hall⟩ := hd0
  cases t with
  | leaf v =>
    cases (show y = V.int v from ht)
    cases (show v = f0 from ho)
    have f2' : f0 + 1 ≤ ds.length := f2
    have hz' : (zs.length : Int) + 1 ≤ 500 := hz
    have hj : f0.toNat < ds.length := by omega
    obtain ⟨xx, hxx, hdx⟩ := hall.getR (List.getElem?_eq_getElem hj)
    refine ⟨_, rfl, _, rfl, kn_int, _, rfl, iteT ⟨_, rfl, .inl ⟨rfl, _, SqL.of hl⟩, _, rfl, l, _, _, rfl, rfl, hl, ?_, ?_⟩⟩
    · rw [List.length_map]; exact small1000 (by omega)
    have g1 : Grow [l] H (upd H l (.lst (zs.map V.int ++ [V.int v0]))) := Grow.set hl (by simp) _
    refine ⟨_, rfl, _, rfl, r, _, _, _, rfl, rfl, g1.sqT hs, ixGet (ixN_nat f1 (by rw [hall.len]; exact hj)) hxx, q _ _ g1 ?_ ?_⟩
    · rw [upd_same, List.map_append]; rfl
    · show DeedAt K _ xx (ds.getD f0.toNat look)
      rw [List.getD_eq_getElem?_getD, List.getElem?_eq_getElem hj]; exact g1.deed hdx
  | node tl tr =>
    have hh : max tl.ht tr.ht + 1 < N + 1 := hN
    have f2' : f0 + (tl.count + tr.count) ≤ ds.length := f2
    have hz' : (zs.length : Int) + (tl.count + tr.count) ≤ 500 := hz
    have c1 := count_pos tl
    have c2 := count_pos tr
    have kn := kn_tree ht
    obtain ⟨a, xl, xr, rfl, hs2, h1, h2⟩ := ht
    refine ⟨_, rfl, _, rfl, kn, _, rfl, iteF ?_⟩
    refine ⟨_, rfl, _, rfl, a, _, _, _, rfl, rfl, hs2, rfl, _, rfl, _, rfl, _, _, _, _, rfl, ds, tl, f0, v0, l, zs, hd, h1, ho.1, f1, by omega, by omega, rfl, rfl, hl, by omega, fun y1 H1 g1 hl1 hy1 => ?_⟩
    have hln := shareT_len ds tl v0
    refine ⟨_, rfl, _, rfl, a, _, _, _, rfl, rfl, g1.sqT hs2, rfl, _, rfl, _, rfl, _, _, rfl, foldT ds tl, v0, hy1, rfl, _, rfl, _, _, _, _, rfl, ds, tr, f0 + tl.count, _, l, zs ++ shareT ds tl v0, g1.deedsT hd, g1.tree h2, ho.2, by omega, by omega, by omega, rfl, rfl, hl1, ?_, fun y2 H2 g2 hl2 hy2 => ?_⟩
    · rw [List.length_append]; omega
    refine ⟨_, rfl, _, rfl, _, _, rfl, foldT ds tl, foldT ds tr, g2.deed hy1, hy2, fun t ht => q _ _ (g1.trans (g2.trans (Grow.new ht _))) ?_ ⟨t, rfl, SqT.of upd_same⟩⟩
    rw [upd_ne (ne_of_none hl2 ht), hl2, List.append_assoc]; rfl
theorem sc_is_within : FnScope ["thing", "least", "greatest"] ["thing", "least", "greatest"] (defScope (top 9)) := ⟨rfl, rfl, rfl, by decide +kernel, rfl, by decide +kernel, by decide +kernel⟩
set_option maxHeartbeats 0 in
theorem ok_is_within {n : Nat} {f : Addr} {fd : FuncData} (F : Fun K "is_within" "is_within" (top 9) f fd) (B : Blt mg) (c_is_whole : Callee P w K mg base n "is_whole" ["thing"] (sp_is_whole K))    :
    FnOk P w K mg base CX0 (n + 1) f fd ["thing", "least", "greatest"] (sp_is_within K) := by
  refine F.ok sc_is_within sp3_len (fun cdv A outer s H vs Q E hr h => ?_)
  obtain ⟨x, y, z, rfl, i, l, u, rfl, rfl, rfl, q⟩ := h
  refine ⟨_, (pss_one (ps_ret (pe_and (pe_callC c_is_whole hr rfl (pa_cons (pv 0) pa_nil)) (pe_one (pe_chain op_le op_le (pv 1) (pv 0) (pv 2)))))), ?_⟩
  refine ⟨_, rfl, _, rfl, kn_int, _, rfl, iteT ⟨_, rfl, _, rfl, _, _, rfl, rfl, _, rfl, ?_⟩⟩
  by_cases c : l ≤ i
  · refine iteT' (decide_eq_true c) ⟨_, rfl, _, _, rfl, rfl, ?_⟩
    rw [decide_eq_true c] at q; exact q
  · refine iteF' (decide_eq_false c) ?_
    rw [decide_eq_false c] at q; exact q
theorem sc_need_many : FnScope ["thing"] ["thing"] (defScope (top 32)) := ⟨rfl, rfl, rfl, by decide +kernel, rfl, by decide +kernel, by decide +kernel⟩
set_option maxHeartbeats 0 in
theorem ok_need_many {n : Nat} {f : Addr} {fd : FuncData} (F : Fun K "need_many" "need_many" (top 32) f fd) (B : Blt mg) (c_is_within : Callee P w K mg base n "is_within" ["thing", "least", "greatest"] (sp_is_within K))  {t_MOST_DEEDS : Tok} (g_MOST_DEEDS : mg "MOST_DEEDS" = some (.int 40 t_MOST_DEEDS))  :
    FnOk P w K mg base CX0 (n + 1) f fd ["thing"] (sp_need_many K) := by
  refine F.ok sc_need_many sp1_len (fun cdv A outer s H vs Q E hr h => ?_)
  obtain ⟨x, rfl, m, rfl, m0, m1, q⟩ := h
  refine ⟨_, (pss_one (ps_if (pt_not (pt_val (pe_callC c_is_within hr rfl (pa_cons (pv 0) (pa_cons pe_int (pa_cons (pe_glob rfl g_MOST_DEEDS (show RelV (.int 40) (.int 40 t_MOST_DEEDS) from ⟨_, rfl⟩)) pa_nil)))))) (pss_one ps_never) pss_nil)), ?_⟩
  exact ⟨_, rfl, _, _, _, rfl, _, _, _, rfl, rfl, rfl, _, rfl, iteF' (by rw [decide_eq_true m0, decide_eq_true m1]; rfl) q⟩
theorem sc_is_tree : FnScope ["thing", "many", "todo", "reached", "part"] ["thing", "many"] (defScope (top 33)) := ⟨rfl, rfl, rfl, by decide +kernel, rfl, by decide +kernel, by decide +kernel⟩
set_option maxHeartbeats 0 in
theorem ok_is_tree {n : Nat} {f : Addr} {fd : FuncData} (F : Fun K "is_tree" "is_tree" (top 33) f fd) (B : Blt mg) (c_is_whole : Callee P w K mg base n "is_whole" ["thing"] (sp_is_whole K)) (c_need_many : Callee P w K mg base n "need_many" ["thing"] (sp_need_many K))    :
    FnOk P w K mg base CX0 (n + 1) f fd ["thing", "many"] (sp_is_tree K) := by
  refine F.ok sc_is_tree sp2_len (fun cdv A outer s H vs Q E hr h => ?_)
  obtain ⟨x, y, rfl, t, m, ht, rfl, ho, hc, m0, m1, q⟩ := h
  refine ⟨_, (pss_cons (ps_expr (pe_callC c_need_many hr rfl (pa_cons (pv 1) pa_nil))) (pss_cons (ps_set (i := 2) sc_is_tree.nd rfl (Or.inl rfl) (pe_lst (pa_cons (pv 0) pa_nil))) (pss_cons (ps_set (i := 3) sc_is_tree.nd rfl (Or.inl rfl) pe_int) (pss_cons (ps_while PassesOwn.never (pt_truth (pv 2) (fun _ => rfl)) (pss_cons (ps_set (i := 4) sc_is_tree.nd rfl (Or.inl rfl) (pe_bm0 PySem.F.plainAttrs_list PySem.F.slot_list_pop PySem.F.type_list_pop mt_pop (pv 2))) (pss_one (ps_if (PW.pt (pw_and (pt_val (pe_callB call_isi rfl B.isinstance b_isinstance (pa_cons (pv 4) (pa_cons (pe_tyn rfl B.tuple b_tuple) pa_nil)))) (pw_and1 (pt_cmpR op_eq (pe_callB call_len_seq rfl B.len b_len (pa_cons (pv 4) pa_nil)) pe_int (nomark _))))) (pss_cons (ps_expr (pe_bm PySem.F.plainAttrs_list PySem.F.slot_list_append PySem.F.type_list_append mt_append (pv 2) (pa_cons (pe_ix ix_tup (pv 4) pe_int (fun _ _ => rfl)) pa_nil))) (pss_one (ps_expr (pe_bm PySem.F.plainAttrs_list PySem.F.slot_list_append PySem.F.type_list_append mt_append (pv 2) (pa_cons (pe_ix ix_tup (pv 4) pe_int (fun _ _ => rfl)) pa_nil))))) (pss_one (ps_if (PW.pt (pw_and (pt_val (pe_callC c_is_whole hr rfl (pa_cons (pv 4) pa_nil))) (pw_and1 (pt_cmpR op_eq (pv 4) (pv 3) (nomark _))))) (pss_one (ps_aug (i := 3) sc_is_tree.nd rfl (Or.inl rfl) pe_int ip_add)) (pss_one (ps_ret pe_bl)))))))) (pss_one (ps_ret (pe_cmpR op_eq (pv 3) (pv 1) (nomark _)))))))), ?_⟩
  refine ⟨_, rfl, _, rfl, m, rfl, m0, m1, ?_⟩
  refine ⟨_, rfl, szl rfl, fun l hl => ?_⟩
  have gl : Grow [l] H (upd H l (.lst [x])) := Grow.new hl _
  have hw := wt_count t
  refine ⟨fun μ σ' H' => ∃ xs ts k e, σ' = [some x, some (V.int m), some (V.ref l), some (V.int k), e] ∧ Grow [l] H H' ∧ H' l = some (.lst xs) ∧ AllR (TreeAt K H') xs ts ∧ OrdR ts.reverse k m ∧ wsum ts = μ ∧ μ ≤ 200, ⟨t.wt, [x], [t], 0, _, rfl, gl, upd_same, ⟨gl.tree ht, trivial⟩, ⟨ho, by show 0 + t.count = m; omega⟩, by simp [wsum], by omega⟩, ?_⟩
  rintro μ σ' H1 ⟨xs, ts, k, e, rfl, g1, hl1, ha1, hO, rfl, hμ⟩
  refine ⟨_, rfl, !xs.isEmpty, .inl ⟨xs, SqL.of hl1, rfl⟩, ?_⟩
  by_cases hx : xs = []
  · subst hx
    have : ts = [] := by have := ha1.len; cases ts with | nil => rfl | cons _ _ => cases this
    subst this
    have hk : k = m := hO
    refine iteF' rfl ⟨_, rfl, _, rfl, rfl, ?_⟩
    rw [decide_eq_true (congrArg V.int hk)]
    exact q _ (g1.shrink hl)
  obtain ⟨ys, y, rfl⟩ := snoc_of hx
  obtain ⟨js, j, rfl, hjs, hj⟩ := ha1.snocE
  rw [wsum_snoc] at hμ
  refine iteT' (by simp) ⟨fun σ' H' => ∃ μ, μ < wsum (js ++ [j]) ∧ ∃ xs ts k e, σ' = [some x, some (V.int m), some (V.ref l), some (V.int k), e] ∧ Grow [l] H H' ∧ H' l = some (.lst xs) ∧ AllR (TreeAt K H') xs ts ∧ OrdR ts.reverse k m ∧ wsum ts = μ ∧ μ ≤ 200, fun _ _ z => z, ?_⟩
  rw [List.reverse_append] at hO
  have hO2 : Ordd j k ∧ OrdR js.reverse (k + j.count) m := hO
  refine ⟨_, rfl, .inl ⟨rfl, _, SqL.of hl1⟩, l, _, y, rfl, rfl, hl1, by simp, ?_⟩
  rw [List.dropLast_concat]
  have g2 : Grow [l] H1 (upd H1 l (.lst ys)) := Grow.set hl1 (by simp) _
  have hjs2 := g2.treesR hjs
  have hj2 := g2.tree hj
  cases j with
  | leaf v =>
    cases (show y = V.int v from hj)
    cases (show v = k from hO2.1)
    refine ⟨_, rfl, _, _, _, false, rfl, rfl, rfl, _, rfl, iteF (iteF ?_)⟩
    refine ⟨_, rfl, _, rfl, kn_int, _, rfl, iteT ⟨_, rfl, _, rfl, rfl, _, rfl, iteT' (by simp) ?_⟩⟩
    refine ⟨_, rfl, _, _, rfl, rfl, wsum js, ?_, ys, js, _, _, rfl, g1.trans g2, upd_same, hjs2, hO2.2, rfl, by omega⟩
    rw [wsum_snoc]; show wsum js < wsum js + 1; omega
  | node tl tr =>
    obtain ⟨a, xl, xr, rfl, hs, h1, h2⟩ := hj2
    have hw2 : Tr.wt (.node tl tr) = tl.wt + tr.wt + 1 := rfl
    rw [hw2] at hμ
    have hlen : ys.length ≤ wsum js := by rw [hjs.len]; exact len_wsum js
    refine ⟨_, rfl, _, _, _, true, rfl, .inl ⟨rfl, _, hs⟩, rfl, _, rfl, iteT ⟨_, rfl, a, _, rfl, .inr hs, rfl, _, rfl, iteT' rfl ?_⟩⟩
    refine ⟨_, rfl, .inl ⟨rfl, _, SqL.of upd_same⟩, _, rfl, a, _, _, _, rfl, rfl, hs, rfl, l, ys, _, rfl, rfl, upd_same, small1000 (by omega), ?_⟩
    have g3 : Grow [l] (upd H1 l (.lst ys)) (upd (upd H1 l (.lst ys)) l (.lst (ys ++ [xr]))) := Grow.set upd_same (by simp) _
    have hs3 := g3.sqT hs
    refine ⟨_, rfl, .inl ⟨rfl, _, SqL.of upd_same⟩, _, rfl, a, _, _, _, rfl, rfl, hs3, rfl, l, ys ++ [xr], _, rfl, rfl, upd_same, small1000 (by rw [List.length_append]; show ys.length + 1 ≤ 1000; omega), ?_⟩
    have g4 : Grow [l] (upd (upd H1 l (.lst ys)) l (.lst (ys ++ [xr]))) (upd (upd (upd H1 l (.lst ys)) l (.lst (ys ++ [xr]))) l (.lst (ys ++ [xr] ++ [xl]))) := Grow.set upd_same (by simp) _
    have g34 := g3.trans g4
    refine ⟨wsum (js ++ [tr] ++ [tl]), ?_, ys ++ [xr] ++ [xl], js ++ [tr] ++ [tl], k, _, rfl, g1.trans (g2.trans g34), upd_same, ((g34.treesR hjs2).app (.one (g34.tree h2))).app (.one (g34.tree h1)), ?_, rfl, ?_⟩
    · rw [wsum_snoc, wsum_snoc, wsum_snoc, hw2]; omega
    · rw [List.reverse_append, List.reverse_append]
      obtain ⟨⟨o1, o2⟩, o3⟩ := hO2
      refine ⟨o1, o2, ?_⟩
      have : k + tl.count + tr.count = k + Tr.count (.node tl tr) := by show k + tl.count + tr.count = k + (tl.count + tr.count); omega
      rw [this]; exact o3
    · rw [wsum_snoc, wsum_snoc]; omega
theorem sc_need_tree : FnScope ["thing", "many"] ["thing", "many"] (defScope (top 35)) := ⟨rfl, rfl, rfl, by decide +kernel, rfl, by decide +kernel, by decide +kernel⟩
set_option maxHeartbeats 0 in
theorem ok_need_tree {n : Nat} {f : Addr} {fd : FuncData} (F : Fun K "need_tree" "need_tree" (top 35) f fd) (B : Blt mg) (c_is_tree : Callee P w K mg base n "is_tree" ["thing", "many"] (sp_is_tree K))    :
    FnOk P w K mg base CX0 (n + 1) f fd ["thing", "many"] (sp_need_tree K) := by
  refine F.ok sc_need_tree sp2_len (fun cdv A outer s H vs Q E hr h => ?_)
  obtain ⟨x, y, rfl, t, m, ht, rfl, ho, hc, m0, m1, q⟩ := h
  refine ⟨_, (pss_one (ps_if (pt_not (pt_val (pe_callC c_is_tree hr rfl (pa_cons (pv 0) (pa_cons (pv 1) pa_nil))))) (pss_one ps_never) pss_nil)), ?_⟩
  exact ⟨_, rfl, _, rfl, _, _, rfl, t, m, ht, rfl, ho, hc, m0, m1, fun H1 g1 => ⟨_, rfl, iteF (q _ g1)⟩⟩
theorem sc_is_end : FnScope ["thing"] ["thing"] (defScope (top 21)) := ⟨rfl, rfl, rfl, by decide +kernel, rfl, by decide +kernel, by decide +kernel⟩
set_option maxHeartbeats 0 in
theorem ok_is_end {n : Nat} {f : Addr} {fd : FuncData} (F : Fun K "is_end" "is_end" (top 21) f fd) (B : Blt mg) (c_is_whole : Callee P w K mg base n "is_whole" ["thing"] (sp_is_whole K))    :
    FnOk P w K mg base CX0 (n + 1) f fd ["thing"] (sp_is_end K) := by
  refine F.ok sc_is_end sp1_len (fun cdv A outer s H vs Q E hr h => ?_)
  obtain ⟨x, rfl, kn, q⟩ := h
  refine ⟨_, (pss_one (ps_ret (pe_or (pe_cmp (pc_isN (pv 0))) (pe_one (pe_callC c_is_whole hr rfl (pa_cons (pv 0) pa_nil)))))), ?_⟩
  refine ⟨x, rfl, _, rfl, ?_⟩
  cases x with
  | non => exact iteT q
  | _ => exact iteF ⟨_, rfl, _, rfl, kn, q⟩
theorem sc_is_deed : FnScope ["thing", "add", "low", "high"] ["thing"] (defScope (top 22)) := ⟨rfl, rfl, rfl, by decide +kernel, rfl, by decide +kernel, by decide +kernel⟩
set_option maxHeartbeats 0 in
theorem ok_is_deed {n : Nat} {f : Addr} {fd : FuncData} (F : Fun K "is_deed" "is_deed" (top 22) f fd) (B : Blt mg) (c_is_end : Callee P w K mg base n "is_end" ["thing"] (sp_is_end K)) (c_is_whole : Callee P w K mg base n "is_whole" ["thing"] (sp_is_whole K))    :
    FnOk P w K mg base CX0 (n + 1) f fd ["thing"] (sp_is_deed K) := by
  refine F.ok sc_is_deed sp1_len (fun cdv A outer s H vs Q E hr h => ?_)
  obtain ⟨x, rfl, h⟩ := h
  refine ⟨_, (pss_cons (ps_if (PW.pt (pw_or (pt_not (pt_val (pe_callB call_isi rfl B.isinstance b_isinstance (pa_cons (pv 0) (pa_cons (pe_tyn rfl B.tuple b_tuple) pa_nil))))) (pw_or1 (pt_cmpR op_ne (pe_callB call_len_seq rfl B.len b_len (pa_cons (pv 0) pa_nil)) pe_int (nomark _))))) (pss_one (ps_ret pe_bl)) pss_nil) (pss_cons (ps_asg (pv 0) (pg_tup rfl (pgs_cons (pg_name (i := 1) sc_is_deed.nd rfl (Or.inl rfl)) (pgs_cons (pg_name (i := 2) sc_is_deed.nd rfl (Or.inl rfl)) (pgs_cons (pg_name (i := 3) sc_is_deed.nd rfl (Or.inl rfl)) pgs_nil))))) (pss_cons (ps_if (pt_not (PW.pt (pw_and (pt_val (pe_callC c_is_whole hr rfl (pa_cons (pv 1) pa_nil))) (pw_and (pt_val (pe_callC c_is_end hr rfl (pa_cons (pv 2) pa_nil))) (pw_and1 (pt_val (pe_callC c_is_end hr rfl (pa_cons (pv 3) pa_nil)))))))) (pss_one (ps_ret pe_bl)) pss_nil) (pss_cons (ps_if (PW.pt (pw_or (pt_cmp (pc_isN (pv 2))) (pw_or1 (pt_cmp (pc_isN (pv 3)))))) (pss_one (ps_ret pe_bl)) pss_nil) (pss_one (ps_ret (pe_or (pe_cmpR op_lt (pv 2) (pv 3) (nomark _)) (pe_one (pe_and (pe_cmpR op_eq (pv 2) (pv 3) (nomark _)) (pe_one (pe_cmpR op_eq (pv 1) pe_int (nomark _)))))))))))), ?_⟩
  rcases h with ⟨T, hT, ty, q⟩ | ⟨a, xs, rfl, hs, hk, q⟩
  · have kt : PySem.W.kitOne K (.type T) (.type "tuple") = some false := by
      cases x with
      | non => cases (show T = "NoneType" from ty); rfl
      | bl y => cases (show T = "bool" from ty); rfl
      | int i => cases (show T = "int" from ty); rfl
      | str y => cases (show T = "str" from ty); rfl
      | byt y => exact ty.elim
      | flt y => exact ty.elim
      | ty y => exact ty.elim
      | ref a =>
        rcases ty with ⟨rfl, xs, hq⟩ | ⟨rfl, xs, hq⟩ | ⟨rfl, kvs, hq⟩
        · exact absurd rfl hT
        · rfl
        · rfl
    exact ⟨_, rfl, _, _, _, false, rfl, ty, kt, _, rfl, iteT (iteT q)⟩
  · refine ⟨_, rfl, _, _, _, true, rfl, .inl ⟨rfl, xs, hs⟩, rfl, _, rfl, iteF ⟨_, rfl, a, xs, rfl, .inr hs, rfl, _, rfl, ?_⟩⟩
    by_cases hl : xs.length = 3
    · obtain ⟨y1, y2, y3, rfl⟩ := len3 hl
      refine iteF ⟨_, rfl, a, _, rfl, hs, rfl, _, _, rfl, _, _, rfl, _, _, rfl, rfl, ?_⟩
      refine ⟨_, rfl, _, rfl, hk y1 (by simp), _, rfl, ?_⟩
      refine ite2 (fun c1 => ?_) (fun c1 => ?_)
      · obtain ⟨i1, rfl⟩ := whole_int c1
        refine ⟨_, rfl, _, rfl, hk y2 (by simp), _, rfl, ?_⟩
        refine ite2 (fun c2 => ?_) (fun c2 => ?_)
        · obtain ⟨o2, rfl⟩ := end_ov c2
          refine ⟨_, rfl, _, rfl, hk y3 (by simp), _, rfl, ?_⟩
          by_cases c3 : endV y3 = true
          · obtain ⟨o3, rfl⟩ := end_ov c3
            rw [c3]
            refine iteF ?_
            cases o2 with
            | none => exact ⟨_, rfl, _, rfl, iteT (iteT (by cases o3 <;> exact q))⟩
            | some l =>
              cases o3 with
              | none => exact ⟨_, rfl, _, rfl, iteF ⟨_, rfl, _, rfl, iteT q⟩⟩
              | some u =>
                refine ⟨_, rfl, _, rfl, iteF ⟨_, rfl, _, rfl, iteF ?_⟩⟩
                refine ⟨_, rfl, _, rfl, _, _, rfl, rfl, _, rfl, ?_⟩
                have q' : Q (.bl (decide (l < u) || (decide (l = u) && decide (i1 = 0)))) H := q
                refine ite2 (fun c => ?_) (fun c => ?_)
                · rw [c] at q'; exact q'
                · rw [Bool.eq_false_iff.mpr c] at q'
                  refine ⟨_, rfl, _, rfl, rfl, _, rfl, ?_⟩
                  refine ite2 (fun d => ?_) (fun d => ?_)
                  · have d' : l = u := V.int.inj (of_decide_eq_true d)
                    refine ⟨_, rfl, rfl, ?_⟩
                    rw [decide_eq_true d'] at q'
                    have e : decide (V.int i1 = V.int 0) = decide (i1 = 0) := by simp
                    rw [e]; exact q'
                  · have d' : ¬ l = u := fun z => d (by rw [z]; simp)
                    rw [decide_eq_false d'] at q'
                    exact q'
          · have e : endV y3 = false := Bool.eq_false_iff.mpr c3
            rw [e]
            refine iteT ?_
            have z : tupDeed [V.int i1, ov o2, y3] = false := by show (true && (endV (ov o2) && (endV y3 && _))) = false; rw [e]; simp
            rw [z] at q; exact q
        · have e : endV y2 = false := Bool.eq_false_iff.mpr c2
          refine iteT ?_
          have z : tupDeed [V.int i1, y2, y3] = false := by show (true && (endV y2 && (endV y3 && _))) = false; rw [e]; simp
          rw [z] at q; exact q
      · have e : wholeV y1 = false := Bool.eq_false_iff.mpr c1
        refine iteT ?_
        have z : tupDeed [y1, y2, y3] = false := by show (wholeV y1 && (endV y2 && (endV y3 && _))) = false; rw [e]; simp
        rw [z] at q; exact q
    · have e : decide (V.int (xs.length : Int) = V.int 3) = false := decide_eq_false fun z => hl (by have := V.int.inj z; omega)
      rw [e]
      refine iteT ?_
      rw [tupDeed_len hl] at q; exact q
theorem sc_need_deeds : FnScope ["thing", "row"] ["thing"] (defScope (top 34)) := ⟨rfl, rfl, rfl, by decide +kernel, rfl, by decide +kernel, by decide +kernel⟩
set_option maxHeartbeats 0 in
theorem ok_need_deeds {n : Nat} {f : Addr} {fd : FuncData} (F : Fun K "need_deeds" "need_deeds" (top 34) f fd) (B : Blt mg) (c_is_deed : Callee P w K mg base n "is_deed" ["thing"] (sp_is_deed K))  {t_MOST_DEEDS : Tok} (g_MOST_DEEDS : mg "MOST_DEEDS" = some (.int 40 t_MOST_DEEDS))  :
    FnOk P w K mg base CX0 (n + 1) f fd ["thing"] (sp_need_deeds K) := by
  refine F.ok sc_need_deeds sp1_len (fun cdv A outer s H vs Q E hr h => ?_)
  obtain ⟨x, rfl, ds, ⟨r, xs, rfl, hs, hall⟩, l1, l2, hok, q⟩ := h
  refine ⟨_, (pss_cons (ps_set (i := 1) sc_need_deeds.nd rfl (Or.inl rfl) (pe_and (pe_callB call_isi rfl B.isinstance b_isinstance (pa_cons (pv 0) (pa_cons (pe_tyn rfl B.tuple b_tuple) pa_nil))) (pe_one (pe_chain op_le op_le pe_int (pe_callB call_len_seq rfl B.len b_len (pa_cons (pv 0) pa_nil)) (pe_glob rfl g_MOST_DEEDS (show RelV (.int 40) (.int 40 t_MOST_DEEDS) from ⟨_, rfl⟩)))))) (pss_one (ps_if (PW.pt (pw_or (pt_not (pt_val (pv 1))) (pw_or1 (pt_not (pt_val (pe_callB (call_allB rfl) rfl B.all b_all (pa_cons (pe_compT (CSc.of (N' := ["deed"]) (sub := [none]) (defScope (top 34)) ["thing", "row"] rfl rfl (by decide +kernel) rfl) rfl (pi_tup (pv 0)) (fun _ _ _ _ _ _ => pg_name (i := 0) (show (["deed"] : List Str).Nodup by decide +kernel) rfl (Or.inl rfl)) (fun _ _ _ _ _ _ => pifs_nil) (fun _ _ _ _ _ _ => (pe_callC c_is_deed hr rfl (pa_cons (pv 0) pa_nil)))) pa_nil))))))) (pss_one ps_never) pss_nil))), ?_⟩
  have hl := hall.len
  refine ⟨_, rfl, _, _, _, true, rfl, .inl ⟨rfl, _, hs⟩, rfl, _, rfl, iteT ?_⟩
  refine ⟨_, rfl, r, _, rfl, .inr hs, _, _, rfl, rfl, _, rfl, iteT' (decide_eq_true (by omega)) ⟨_, _, rfl, rfl, ?_⟩⟩
  refine ⟨_, rfl, _, rfl, iteF' (by rw [decide_eq_true (show (xs.length : Int) ≤ 40 by omega)]; rfl) ?_⟩
  refine ⟨_, rfl, r, rfl, ⟨_, hs⟩, comp_mapT (fun _ => V.bl true) hs (by omega) ?_ ?_⟩
  · intro v H2 R hv g k
    obtain ⟨i, hi⟩ := List.getElem?_of_mem hv
    obtain ⟨d, hd, rd, rfl, hrd⟩ := hall.get hi
    refine ⟨_, rfl, _, rfl, .inr ⟨rd, _, rfl, g.sqT hrd, ?_, ?_⟩⟩
    · intro v hv
      simp only [Deed.vs, List.mem_cons, List.mem_nil_iff, or_false] at hv
      rcases hv with rfl | rfl | rfl
      · exact kn_int
      · exact kn_ov _
      · exact kn_ov _
    · rw [tupDeed_ok (hok d (List.mem_of_getElem? hd))]; exact k _ (Grow.refl _ _)
  · intro H2 p g hp
    refine ⟨p, xs.map (fun _ => true), rfl, SqL.of (by rw [upd_same, List.map_map]; rfl), _, rfl, iteF' (by rw [all_trues]; rfl) ?_⟩
    exact q _ (g.trans (Grow.new hp _))
theorem sc_need_value : FnScope ["thing"] ["thing"] (defScope (top 23)) := ⟨rfl, rfl, rfl, by decide +kernel, rfl, by decide +kernel, by decide +kernel⟩
set_option maxHeartbeats 0 in
theorem ok_need_value {n : Nat} {f : Addr} {fd : FuncData} (F : Fun K "need_value" "need_value" (top 23) f fd) (B : Blt mg) (c_is_whole : Callee P w K mg base n "is_whole" ["thing"] (sp_is_whole K))    :
    FnOk P w K mg base CX0 (n + 1) f fd ["thing"] (sp_need_value K) := by
  refine F.ok sc_need_value sp1_len (fun cdv A outer s H vs Q E hr h => ?_)
  obtain ⟨x, rfl, i, rfl, q⟩ := h
  refine ⟨_, (pss_one (ps_if (pt_not (pt_val (pe_callC c_is_whole hr rfl (pa_cons (pv 0) pa_nil)))) (pss_one ps_never) pss_nil)), ?_⟩
  exact ⟨_, rfl, _, rfl, kn_int, _, rfl, iteF q⟩
theorem sc_shared_out : FnScope ["deeds", "tree", "value", "values"] ["deeds", "tree", "value"] (defScope (top 37)) := ⟨rfl, rfl, rfl, by decide +kernel, rfl, by decide +kernel, by decide +kernel⟩
set_option maxHeartbeats 0 in
theorem ok_shared_out {n : Nat} {f : Addr} {fd : FuncData} (F : Fun K "shared_out" "shared_out" (top 37) f fd) (B : Blt mg) (c_share : Callee P w K mg base n "share" ["deeds", "tree", "value", "values"] (sp_share 41 K)) (c_need_tree : Callee P w K mg base n "need_tree" ["thing", "many"] (sp_need_tree K)) (c_need_deeds : Callee P w K mg base n "need_deeds" ["thing"] (sp_need_deeds K)) (c_need_value : Callee P w K mg base n "need_value" ["thing"] (sp_need_value K))    :
    FnOk P w K mg base CX0 (n + 1) f fd ["deeds", "tree", "value"] (sp_shared_out K) := by
  refine F.ok sc_shared_out sp3_len (fun cdv A outer s H vs Q E hr h => ?_)
  obtain ⟨x, y, z, rfl, ds, t, v0, hd, d1, d2, hok, ht, ho, hc, hh, rfl, q⟩ := h
  refine ⟨_, (pss_cons (ps_expr (pe_callC c_need_value hr rfl (pa_cons (pv 2) pa_nil))) (pss_cons (ps_expr (pe_callC c_need_deeds hr rfl (pa_cons (pv 0) pa_nil))) (pss_cons (ps_expr (pe_callC c_need_tree hr rfl (pa_cons (pv 1) (pa_cons (pe_callB call_len_seq rfl B.len b_len (pa_cons (pv 0) pa_nil)) pa_nil)))) (pss_cons (ps_set (i := 3) sc_shared_out.nd rfl (Or.inl rfl) (pe_lst pa_nil)) (pss_cons (ps_expr (pe_callC c_share hr rfl (pa_cons (pv 0) (pa_cons (pv 1) (pa_cons (pv 2) (pa_cons (pv 3) pa_nil)))))) (pss_one (ps_ret (pe_callTy call_tuple_of rfl B.tuple b_tuple (pa_cons (pv 3) pa_nil))))))))), ?_⟩
  refine ⟨_, rfl, _, rfl, v0, rfl, _, rfl, _, rfl, ds, hd, d1, d2, hok, fun H1 g1 => ?_⟩
  obtain ⟨r, xs, rfl, hs, hall⟩ := g1.deedsT hd
  have hl := hall.len
  refine ⟨_, rfl, _, rfl, r, _, rfl, .inr hs, _, _, rfl, t, _, g1.tree ht, rfl, ho, by omega, by omega, by omega, fun H2 g2 => ?_⟩
  refine ⟨szl rfl, fun l hlf => ?_⟩
  have g3 : Grow [] H2 (upd H2 l (.lst [])) := Grow.new hlf _
  have g23 := g2.trans g3
  refine ⟨_, rfl, _, rfl, _, rfl, _, rfl, _, _, _, _, rfl, ds, t, 0, v0, l, [], g23.deedsT ⟨r, xs, rfl, hs, hall⟩, g23.tree (g1.tree ht), ho, by decide, by omega, hh, rfl, rfl, upd_same, by show (0 : Int) + t.count ≤ 500; omega, fun y4 H4 g4 hl4 hy4 => ?_⟩
  rw [List.nil_append, shareT_seg hok v0 ho (by decide) (by omega), hc, seg_all] at hl4
  refine ⟨_, rfl, l, _, rfl, .inl ⟨SqL.of hl4, fun p hp => q _ _ ?_ ⟨p, rfl, SqT.of upd_same⟩⟩⟩
  exact g1.trans (g2.trans ((((g3.wk (m := [l])).trans g4).shrink hlf).trans (Grow.new hp _)))
theorem sc_share_by : FnScope ["deeds", "table", "numbers", "tree", "state", "states", "left", "right"] ["deeds", "table", "numbers", "tree", "state", "states"] (defScope (top 44)) := ⟨rfl, rfl, rfl, by decide +kernel, rfl, by decide +kernel, by decide +kernel⟩
set_option maxHeartbeats 0 in
theorem ok_share_by {n : Nat} {f : Addr} {fd : FuncData} (F : Fun K "share_by" "share_by" (top 44) f fd) (B : Blt mg) {N : Nat} (c_share_by : Callee P w K mg base n "share_by" ["deeds", "table", "numbers", "tree", "state", "states"] (sp_share_by N K)) (c_is_whole : Callee P w K mg base n "is_whole" ["thing"] (sp_is_whole K))    :
    FnOk P w K mg base CX0 (n + 1) f fd ["deeds", "table", "numbers", "tree", "state", "states"] (sp_share_by (N + 1) K) := by
  refine F.ok sc_share_by sp6_len (fun cdv A outer s H vs Q E hr h => ?_)
  obtain ⟨x, y, z, u, w, k, rfl, R, M, ds, tab, ns, t, f0, v0, l, zs, hd, hx, hy, ht, F, hD, ho, f1, f2, hN, rfl, v1, v2, rfl, hl, hz, q⟩ := h
  refine ⟨_, (pss_cons (ps_if (pt_val (pe_callC c_is_whole hr rfl (pa_cons (pv 3) pa_nil))) (pss_cons (ps_expr (pe_bm PySem.F.plainAttrs_list PySem.F.slot_list_append PySem.F.type_list_append mt_append (pv 5) (pa_cons (pv 4) pa_nil))) (pss_one (ps_ret (pe_ix ix_tup (pv 2) (pv 3) (fun _ _ => rfl))))) pss_nil) (pss_cons (ps_set (i := 6) sc_share_by.nd rfl (Or.inl rfl) (pe_callC c_share_by hr rfl (pa_cons (pv 0) (pa_cons (pv 1) (pa_cons (pv 2) (pa_cons (pe_ix ix_tup (pv 3) pe_int (fun _ _ => rfl)) (pa_cons (pv 4) (pa_cons (pv 5) pa_nil)))))))) (pss_cons (ps_set (i := 7) sc_share_by.nd rfl (Or.inl rfl) (pe_callC c_share_by hr rfl (pa_cons (pv 0) (pa_cons (pv 1) (pa_cons (pv 2) (pa_cons (pe_ix ix_tup (pv 3) pe_int (fun _ _ => rfl)) (pa_cons (pe_ix ix_tup (pe_ix ix_tup (pv 0) (pv 6) (fun _ _ => rfl)) (pv 4) (fun _ _ => rfl)) (pa_cons (pv 5) pa_nil)))))))) (pss_one (ps_ret (pe_ix ix_tup (pe_ix ix_tup (pv 1) (pv 6) (fun _ _ => rfl)) (pv 7) (fun _ _ => rfl))))))), ?_⟩
  have hx0 := hx
  have hy0 := hy
  have hd0 := hd
  obtain ⟨rx, xs, rfl, hxs, hall⟩ := hx0
  obtain ⟨ry, rfl, hys⟩ := hy0
  obtain ⟨rd, xd, rfl, hds, hdall⟩ := hd0
  have hR := F.tab.1
  cases t with
  | leaf v =>
    cases (show u = V.int v from ht)
    cases (show v = f0 from ho)
    have f2' : f0 + 1 ≤ ns.length := f2
    have hz' : (zs.length : Int) + 1 ≤ 500 := hz
    refine ⟨_, rfl, _, rfl, kn_int, _, rfl, iteT ⟨_, rfl, .inl ⟨rfl, _, SqL.of hl⟩, _, rfl, l, _, _, rfl, rfl, hl, ?_, ?_⟩⟩
    · rw [List.length_map]; exact small1000 (by omega)
    have g1 : Grow [l] H (upd H l (.lst (zs.map V.int ++ [V.int v0]))) := Grow.set hl (by simp) _
    refine ⟨_, rfl, _, rfl, ry, _, _, _, rfl, rfl, g1.sqT hys, getI f1 (by omega), q _ g1 ?_⟩
    rw [upd_same, List.map_append]; rfl
  | node tl tr =>
    have hh : max tl.ht tr.ht + 1 < N + 1 := hN
    have f2' : f0 + (tl.count + tr.count) ≤ ns.length := f2
    have hz' : (zs.length : Int) + (tl.count + tr.count) ≤ 500 := hz
    have c1 := count_pos tl
    have c2 := count_pos tr
    have kn := kn_tree ht
    obtain ⟨a, xl, xr, rfl, hs2, h1, h2⟩ := ht
    have n1 := numT_rng F ho.1 f1 (by omega)
    have n2 := numT_rng F ho.2 (by omega) (by omega)
    have z1 := rowOk F.tab n1.1 n1.2
    have w1 := rowOk hD n1.1 n1.2
    have w2 := rng_get w1.2 v1 (by rw [w1.1]; exact v2)
    refine ⟨_, rfl, _, rfl, kn, _, rfl, iteF ?_⟩
    refine ⟨_, rfl, _, rfl, _, rfl, _, rfl, a, _, _, _, rfl, rfl, hs2, rfl, _, rfl, _, rfl, _, _, _, _, _, _, rfl, R, M, ds, tab, ns, tl, f0, v0, l, zs, hd, hx, hy, h1, F, hD, ho.1, f1, by omega, by omega, rfl, v1, v2, rfl, hl, by omega, fun H1 g1 hl1 => ?_⟩
    have hln := shT_len ds tab ns tl v0
    have hs3 := g1.sqT hs2
    obtain ⟨re, hre, hse⟩ := getRow (g1.boardsR hdall) n1.1 (by rw [hD.1]; exact n1.2)
    refine ⟨_, rfl, _, rfl, _, rfl, _, rfl, a, _, _, _, rfl, rfl, hs3, rfl, _, rfl, _, rfl, rd, _, _, _, rfl, rfl, g1.sqT hds, hre, _, rfl, re, _, _, _, rfl, rfl, hse, getI v1 (by rw [w1.1]; exact v2), _, rfl, _, _, _, _, _, _, rfl, R, M, ds, tab, ns, tr, f0 + tl.count, _, l, zs ++ shT ds tab ns tl v0, g1.rows hd, g1.rows hx, g1.board hy, g1.tree h2, F, hD, ho.2, by omega, by omega, by omega, rfl, w2.1, w2.2, rfl, hl1, ?_, fun H2 g2 hl2 => ?_⟩
    · rw [List.length_append]; omega
    have g12 := g1.trans g2
    obtain ⟨ra, hra, hsa⟩ := getRow (g12.boardsR hall) n1.1 (by rw [hR]; exact n1.2)
    refine ⟨_, rfl, _, rfl, rx, _, _, _, rfl, rfl, g12.sqT hxs, hra, _, rfl, ra, _, _, _, rfl, rfl, hsa, getI n2.1 (by rw [z1.1]; exact n2.2), q _ g12 ?_⟩
    rw [hl2, List.append_assoc]; rfl
theorem sc_are_numbers : FnScope ["thing", "many"] ["thing", "many"] (defScope (top 39)) := ⟨rfl, rfl, rfl, by decide +kernel, rfl, by decide +kernel, by decide +kernel⟩
set_option maxHeartbeats 0 in
theorem ok_are_numbers {n : Nat} {f : Addr} {fd : FuncData} (F : Fun K "are_numbers" "are_numbers" (top 39) f fd) (B : Blt mg) (c_is_within : Callee P w K mg base n "is_within" ["thing", "least", "greatest"] (sp_is_within K))    :
    FnOk P w K mg base CX0 (n + 1) f fd ["thing", "many"] (sp_are_numbers K) := by
  refine F.ok sc_are_numbers sp2_len (fun cdv A outer s H vs Q E hr h => ?_)
  obtain ⟨x, y, rfl, ns, m, ⟨r, rfl, hs⟩, rfl, hr0, hl, q⟩ := h
  refine ⟨_, (pss_one (ps_ret (pe_and (pe_callB call_isi rfl B.isinstance b_isinstance (pa_cons (pv 0) (pa_cons (pe_tyn rfl B.tuple b_tuple) pa_nil))) (pe_one (pe_callB (call_allB rfl) rfl B.all b_all (pa_cons (pe_compT (CSc.of (N' := ["number", "many"]) (sub := [none, some 1]) (defScope (top 39)) ["thing", "many"] rfl rfl (by decide +kernel) rfl) rfl (pi_tup (pv 0)) (fun _ _ _ _ _ _ => pg_name (i := 0) (show (["number", "many"] : List Str).Nodup by decide +kernel) rfl (Or.inl rfl)) (fun _ _ _ _ _ _ => pifs_nil) (fun _ _ _ _ _ _ => (pe_callC c_is_within hr rfl (pa_cons (pv 0) (pa_cons pe_int (pa_cons (pe_op op_sub (pv 1) pe_int) pa_nil)))))) pa_nil)))))), ?_⟩
  refine ⟨_, rfl, _, _, _, true, rfl, .inl ⟨rfl, _, hs⟩, rfl, _, rfl, iteT ?_⟩
  refine ⟨_, rfl, r, rfl, ⟨_, hs⟩, comp_mapT (fun _ => V.bl true) hs (by rw [List.length_map]; exact hl) ?_ ?_⟩
  · intro v H2 R hv g k
    obtain ⟨i, hi, rfl⟩ := List.mem_map.mp hv
    have := hr0 i hi
    refine ⟨_, rfl, _, rfl, _, _, rfl, rfl, _, _, _, rfl, _, _, _, rfl, rfl, rfl, ?_⟩
    rw [decide_eq_true this.1, decide_eq_true (show i ≤ m - 1 by omega)]
    exact k _ (Grow.refl _ _)
  · intro H2 p g hp
    refine ⟨p, ns.map (fun _ => true), rfl, SqL.of (by rw [upd_same, trues_eq]), ?_⟩
    rw [all_trues]
    exact q _ (g.trans (Grow.new hp _))
theorem sc_need_numbers : FnScope ["table", "thing"] ["table", "thing"] (defScope (top 42)) := ⟨rfl, rfl, rfl, by decide +kernel, rfl, by decide +kernel, by decide +kernel⟩
set_option maxHeartbeats 0 in
theorem ok_need_numbers {n : Nat} {f : Addr} {fd : FuncData} (F : Fun K "need_numbers" "need_numbers" (top 42) f fd) (B : Blt mg) (c_are_numbers : Callee P w K mg base n "are_numbers" ["thing", "many"] (sp_are_numbers K))  {t_MOST_DEEDS : Tok} (g_MOST_DEEDS : mg "MOST_DEEDS" = some (.int 40 t_MOST_DEEDS))  :
    FnOk P w K mg base CX0 (n + 1) f fd ["table", "thing"] (sp_need_numbers K) := by
  refine F.ok sc_need_numbers sp2_len (fun cdv A outer s H vs Q E hr h => ?_)
  obtain ⟨x, y, rfl, rows, ns, ⟨r, xs, rfl, hs, hall⟩, hb, hR, l1, l2, q⟩ := h
  refine ⟨_, (pss_one (ps_if (PW.pt (pw_or (pt_not (pt_val (pe_callC c_are_numbers hr rfl (pa_cons (pv 1) (pa_cons (pe_callB call_len_seq rfl B.len b_len (pa_cons (pv 0) pa_nil)) pa_nil))))) (pw_or1 (pt_not (pt_chain op_le op_le pe_int (pe_callB call_len_seq rfl B.len b_len (pa_cons (pv 1) pa_nil)) (pe_glob rfl g_MOST_DEEDS (show RelV (.int 40) (.int 40 t_MOST_DEEDS) from ⟨_, rfl⟩))))))) (pss_one ps_never) pss_nil)), ?_⟩
  have hl := hall.len
  have hln : (ns.map V.int).length = ns.length := List.length_map ..
  refine ⟨_, rfl, _, rfl, r, _, rfl, .inr hs, _, _, rfl, ns, _, hb, rfl, by rw [hl]; exact hR, by omega, fun H1 g1 => ⟨_, rfl, iteF ?_⟩⟩
  obtain ⟨rr, rfl, hrr⟩ := g1.board hb
  refine ⟨_, rfl, rr, _, rfl, .inr hrr, _, _, rfl, rfl, _, rfl, iteT' (decide_eq_true (by rw [hln]; omega)) ⟨_, _, rfl, rfl, _, rfl, iteF' (by rw [decide_eq_true (show ((ns.map V.int).length : Int) ≤ 40 by rw [hln]; omega)]; rfl) (q _ g1)⟩⟩
theorem sc_is_by_table : FnScope ["thing"] ["thing"] (defScope (top 14)) := ⟨rfl, rfl, rfl, by decide +kernel, rfl, by decide +kernel, by decide +kernel⟩
set_option maxHeartbeats 0 in
theorem ok_is_by_table {n : Nat} {f : Addr} {fd : FuncData} (F : Fun K "is_by_table" "is_by_table" (top 14) f fd) (B : Blt mg) (c_is_within : Callee P w K mg base n "is_within" ["thing", "least", "greatest"] (sp_is_within K))  {t_MOST_STATES : Tok} (g_MOST_STATES : mg "MOST_STATES" = some (.int 5 t_MOST_STATES))  :
    FnOk P w K mg base CX0 (n + 1) f fd ["thing"] (sp_is_by_table K) := by
  refine F.ok sc_is_by_table sp1_len (fun cdv A outer s H vs Q E hr h => ?_)
  obtain ⟨x, rfl, row, ⟨r, rfl, hs⟩, l1, l2, hr0, q⟩ := h
  refine ⟨_, (pss_cons (ps_if (PW.pt (pw_or (pt_not (pt_val (pe_callB call_isi rfl B.isinstance b_isinstance (pa_cons (pv 0) (pa_cons (pe_tyn rfl B.tuple b_tuple) pa_nil))))) (pw_or1 (pt_not (pt_chain op_le op_le pe_int (pe_callB call_len_seq rfl B.len b_len (pa_cons (pv 0) pa_nil)) (pe_glob rfl g_MOST_STATES (show RelV (.int 5) (.int 5 t_MOST_STATES) from ⟨_, rfl⟩))))))) (pss_one (ps_ret pe_bl)) pss_nil) (pss_one (ps_ret (pe_callB (call_allB rfl) rfl B.all b_all (pa_cons (pe_compT (CSc.of (N' := ["state", "thing"]) (sub := [none, some 0]) (defScope (top 14)) ["thing"] rfl rfl (by decide +kernel) rfl) rfl (pi_tup (pv 0)) (fun _ _ _ _ _ _ => pg_name (i := 0) (show (["state", "thing"] : List Str).Nodup by decide +kernel) rfl (Or.inl rfl)) (fun _ _ _ _ _ _ => pifs_nil) (fun _ _ _ _ _ _ => (pe_callC c_is_within hr rfl (pa_cons (pv 0) (pa_cons pe_int (pa_cons (pe_op op_sub (pe_callB (call_lenK (K := K) rfl) rfl B.len b_len (pa_cons (pv 1) pa_nil)) pe_int) pa_nil)))))) pa_nil))))), ?_⟩
  have hl : (row.map V.int).length = row.length := List.length_map ..
  refine ⟨_, rfl, _, _, _, true, rfl, .inl ⟨rfl, _, hs⟩, rfl, _, rfl, iteF ?_⟩
  refine ⟨_, rfl, r, _, rfl, .inr hs, _, _, rfl, rfl, _, rfl, iteT' (decide_eq_true (by rw [hl]; omega)) ⟨_, _, rfl, rfl, _, rfl, iteF' (by rw [decide_eq_true (show ((row.map V.int).length : Int) ≤ 5 by rw [hl]; omega)]; rfl) ?_⟩⟩
  refine ⟨_, rfl, r, rfl, ⟨_, hs⟩, comp_mapT (fun _ => V.bl true) hs (by rw [hl]; omega) ?_ ?_⟩
  · intro v H2 R hv g k
    obtain ⟨i, hi, rfl⟩ := List.mem_map.mp hv
    have := hr0 i hi
    refine ⟨_, rfl, _, rfl, r, _, rfl, .inr (g.sqT hs), _, _, rfl, rfl, _, _, _, rfl, _, _, _, rfl, rfl, rfl, ?_⟩
    rw [decide_eq_true this.1, decide_eq_true (show i ≤ ((row.map V.int).length : Int) - 1 by rw [hl]; omega)]
    exact k _ (Grow.refl _ _)
  · intro H2 p g hp
    refine ⟨p, row.map (fun _ => true), rfl, SqL.of (by rw [upd_same, trues_eq]), ?_⟩
    rw [all_trues]
    exact q _ (g.trans (Grow.new hp _))
theorem sc_need_by_table : FnScope ["thing", "least", "most"] ["thing", "least", "most"] (defScope (top 15)) := ⟨rfl, rfl, rfl, by decide +kernel, rfl, by decide +kernel, by decide +kernel⟩
set_option maxHeartbeats 0 in
theorem ok_need_by_table {n : Nat} {f : Addr} {fd : FuncData} (F : Fun K "need_by_table" "need_by_table" (top 15) f fd) (B : Blt mg) (c_is_by_table : Callee P w K mg base n "is_by_table" ["thing"] (sp_is_by_table K))    :
    FnOk P w K mg base CX0 (n + 1) f fd ["thing", "least", "most"] (sp_need_by_tableG K) := by
  refine F.ok sc_need_by_table sp3_len (fun cdv A outer s H vs Q E hr h => ?_)
  obtain ⟨x, y, z, rfl, R, M, lo, hi, rows, hx, rfl, rfl, b1, b2, r1, r2, m1, m2, hT, q⟩ := h
  refine ⟨_, (pss_cons (ps_if (PW.pt (pw_or (pt_not (pt_val (pe_callB call_isi rfl B.isinstance b_isinstance (pa_cons (pv 0) (pa_cons (pe_tyn rfl B.tuple b_tuple) pa_nil))))) (pw_or1 (pt_not (pt_chain op_le op_le (pv 1) (pe_callB call_len_seq rfl B.len b_len (pa_cons (pv 0) pa_nil)) (pv 2)))))) (pss_one ps_never) pss_nil) (pss_cons (ps_if (pt_not (pt_val (pe_callB (call_allB rfl) rfl B.all b_all (pa_cons (pe_compT (CSc.of (N' := ["deed"]) (sub := [none]) (defScope (top 15)) ["thing", "least", "most"] rfl rfl (by decide +kernel) rfl) rfl (pi_tup (pv 0)) (fun _ _ _ _ _ _ => pg_name (i := 0) (show (["deed"] : List Str).Nodup by decide +kernel) rfl (Or.inl rfl)) (fun _ _ _ _ _ _ => pifs_nil) (fun _ _ _ _ _ _ => (pe_callC c_is_by_table hr rfl (pa_cons (pv 0) pa_nil)))) pa_nil)))) (pss_one ps_never) pss_nil) (pss_one (ps_if (pt_not (pt_val (pe_callB (call_allB rfl) rfl B.all b_all (pa_cons (pe_compT (CSc.of (N' := ["deed", "thing"]) (sub := [none, some 0]) (defScope (top 15)) ["thing", "least", "most"] rfl rfl (by decide +kernel) rfl) rfl (pi_tup (pv 0)) (fun _ _ _ _ _ _ => pg_name (i := 0) (show (["deed", "thing"] : List Str).Nodup by decide +kernel) rfl (Or.inl rfl)) (fun _ _ _ _ _ _ => pifs_nil) (fun _ _ _ _ _ _ => (pe_cmpR op_eq (pe_callB (call_lenK (K := K) rfl) rfl B.len b_len (pa_cons (pv 0) pa_nil)) (pe_callB (call_lenK (K := K) rfl) rfl B.len b_len (pa_cons (pe_ix (ix_tupK (K := K) rfl) (pv 1) pe_int (fun _ _ => rfl)) pa_nil)) (nomark _)))) pa_nil)))) (pss_one ps_never) pss_nil)))), ?_⟩
  have hx0 := hx
  obtain ⟨r, xs, rfl, hs, hall⟩ := hx0
  have hl := hall.len
  have hR := hT.1
  refine ⟨_, rfl, _, _, _, true, rfl, .inl ⟨rfl, _, hs⟩, rfl, _, rfl, iteF ?_⟩
  refine ⟨_, rfl, _, rfl, r, _, rfl, .inr hs, _, _, rfl, rfl, _, rfl, iteT' (decide_eq_true (by omega)) ⟨_, rfl, _, _, rfl, rfl, _, rfl, iteF' (by rw [decide_eq_true (show (xs.length : Int) ≤ hi by omega)]; rfl) ?_⟩⟩
  refine ⟨_, rfl, r, rfl, ⟨_, hs⟩, comp_mapT (fun _ => V.bl true) hs (by omega) ?_ ?_⟩
  · intro v H2 R' hv g k
    obtain ⟨i, hi⟩ := List.getElem?_of_mem hv
    obtain ⟨row, hrow, hb⟩ := hall.get hi
    have ho := hT.2 row (List.mem_of_getElem? hrow)
    exact ⟨_, rfl, _, rfl, row, g.board hb, by omega, by omega, by rw [ho.1]; exact ho.2, fun H3 g3 => k _ g3⟩
  intro H2 p g hp
  refine ⟨p, xs.map (fun _ => true), rfl, SqL.of (by rw [upd_same, List.map_map]; rfl), _, rfl, iteF' (by rw [all_trues]; rfl) ?_⟩
  have g2 := g.trans (Grow.new hp (.lst (xs.map fun _ => V.bl true)))
  have hs2 := g2.sqT hs
  have hall2 := g2.boardsR hall
  obtain ⟨ra, hra, hsa⟩ := getRow hall2 (i := 0) (by decide) (by omega)
  have hrl := (rowOk hT (i := 0) (by decide) (by omega)).1
  refine ⟨_, rfl, r, rfl, ⟨_, hs2⟩, comp_mapT (fun _ => V.bl true) hs2 (by omega) ?_ ?_⟩
  · intro v H3 R' hv g3 k
    obtain ⟨i, hi⟩ := List.getElem?_of_mem hv
    obtain ⟨row, hrow, rr, rfl, hrr⟩ := hall2.get hi
    have ho := hT.2 row (List.mem_of_getElem? hrow)
    refine ⟨_, rfl, rr, _, rfl, .inr (g3.sqT hrr), _, rfl, r, _, _, _, rfl, rfl, g3.sqT hs2, hra, ra, _, rfl, .inr (g3.sqT hsa), rfl, ?_⟩
    rw [decide_eq_true (congrArg V.int (show ((row.map V.int).length : Int) = (((rows.getD (0 : Int).toNat []).map V.int).length : Int) by rw [List.length_map, List.length_map, ho.1, hrl]))]
    exact k _ (Grow.refl _ _)
  · intro H3 p3 g3 hp3
    refine ⟨p3, xs.map (fun _ => true), rfl, SqL.of (by rw [upd_same, List.map_map]; rfl), _, rfl, iteF' (by rw [all_trues]; rfl) ?_⟩
    exact q _ (g2.trans (g3.trans (Grow.new hp3 _)))
theorem sc_need_table : FnScope ["thing", "many"] ["thing"] (defScope (top 40)) := ⟨rfl, rfl, rfl, by decide +kernel, rfl, by decide +kernel, by decide +kernel⟩
set_option maxHeartbeats 0 in
theorem ok_need_table {n : Nat} {f : Addr} {fd : FuncData} (F : Fun K "need_table" "need_table" (top 40) f fd) (B : Blt mg) (c_are_numbers : Callee P w K mg base n "are_numbers" ["thing", "many"] (sp_are_numbers K))  {t_MOST_IN_FAMILY : Tok} (g_MOST_IN_FAMILY : mg "MOST_IN_FAMILY" = some (.int 60 t_MOST_IN_FAMILY))  :
    FnOk P w K mg base CX0 (n + 1) f fd ["thing"] (sp_need_table K) := by
  refine F.ok sc_need_table sp1_len (fun cdv A outer s H vs Q E hr h => ?_)
  obtain ⟨x, rfl, rows, ⟨r, xs, rfl, hs, hall⟩, l1, l2, hT, q⟩ := h
  refine ⟨_, (pss_cons (ps_if (PW.pt (pw_or (pt_not (pt_val (pe_callB call_isi rfl B.isinstance b_isinstance (pa_cons (pv 0) (pa_cons (pe_tyn rfl B.tuple b_tuple) pa_nil))))) (pw_or1 (pt_not (pt_chain op_le op_le pe_int (pe_callB call_len_seq rfl B.len b_len (pa_cons (pv 0) pa_nil)) (pe_glob rfl g_MOST_IN_FAMILY (show RelV (.int 60) (.int 60 t_MOST_IN_FAMILY) from ⟨_, rfl⟩))))))) (pss_one ps_never) pss_nil) (pss_cons (ps_set (i := 1) sc_need_table.nd rfl (Or.inr rfl) (pe_callB call_len_seq rfl B.len b_len (pa_cons (pv 0) pa_nil))) (pss_one (ps_if (pt_not (pt_val (pe_callB (call_allB rfl) rfl B.all b_all (pa_cons (pe_compT (CSc.of (N' := ["row", "many"]) (sub := [none, some 1]) (defScope (top 40)) ["thing", "many"] rfl rfl (by decide +kernel) rfl) rfl (pi_tup (pv 0)) (fun _ _ _ _ _ _ => pg_name (i := 0) (show (["row", "many"] : List Str).Nodup by decide +kernel) rfl (Or.inl rfl)) (fun _ _ _ _ _ _ => pifs_nil) (fun _ _ _ _ _ _ => (pe_and (pe_callC c_are_numbers hr rfl (pa_cons (pv 0) (pa_cons (pv 1) pa_nil))) (pe_one (pe_cmpR op_eq (pe_callB (call_lenK (K := K) rfl) rfl B.len b_len (pa_cons (pv 0) pa_nil)) (pv 1) (nomark _)))))) pa_nil)))) (pss_one ps_never) pss_nil)))), ?_⟩
  have hl := hall.len
  refine ⟨_, rfl, _, _, _, true, rfl, .inl ⟨rfl, _, hs⟩, rfl, _, rfl, iteF ?_⟩
  refine ⟨_, rfl, r, _, rfl, .inr hs, _, _, rfl, rfl, _, rfl, iteT' (decide_eq_true (by omega)) ⟨_, _, rfl, rfl, _, rfl, iteF' (by rw [decide_eq_true (show (xs.length : Int) ≤ 60 by omega)]; rfl) ?_⟩⟩
  refine ⟨_, rfl, r, _, rfl, .inr hs, ?_⟩
  refine ⟨_, rfl, r, rfl, ⟨_, hs⟩, comp_mapT (fun _ => V.bl true) hs (by omega) ?_ ?_⟩
  · intro v H2 R hv g k
    obtain ⟨i, hi⟩ := List.getElem?_of_mem hv
    obtain ⟨row, hrow, hb⟩ := hall.get hi
    have ho := hT.2 row (List.mem_of_getElem? hrow)
    have hb2 := g.board hb
    refine ⟨_, rfl, _, rfl, _, _, rfl, row, (xs.length : Int), hb2, rfl, by rw [hl]; exact ho.2, by omega, fun H3 g3 => ⟨_, rfl, iteT ?_⟩⟩
    obtain ⟨rr, rfl, hrr⟩ := g3.board hb2
    refine ⟨_, rfl, rr, _, rfl, .inr hrr, _, rfl, rfl, ?_⟩
    rw [decide_eq_true (congrArg V.int (show ((row.map V.int).length : Int) = xs.length by rw [List.length_map, ho.1, hl]))]
    exact k _ g3
  · intro H2 p g hp
    refine ⟨p, xs.map (fun _ => true), rfl, SqL.of (by rw [upd_same, List.map_map]; rfl), _, rfl, iteF' (by rw [all_trues]; rfl) ?_⟩
    exact q _ (g.trans (Grow.new hp _))
theorem sc_need_table_of : FnScope ["deeds", "table"] ["deeds", "table"] (defScope (top 41)) := ⟨rfl, rfl, rfl, by decide +kernel, rfl, by decide +kernel, by decide +kernel⟩
set_option maxHeartbeats 0 in
theorem ok_need_table_of {n : Nat} {f : Addr} {fd : FuncData} (F : Fun K "need_table_of" "need_table_of" (top 41) f fd) (B : Blt mg) (c_need_by_table : Callee P w K mg base n "need_by_table" ["thing", "least", "most"] (sp_need_by_tableG K)) (c_need_table : Callee P w K mg base n "need_table" ["thing"] (sp_need_table K))    :
    FnOk P w K mg base CX0 (n + 1) f fd ["deeds", "table"] (sp_need_table_of K) := by
  refine F.ok sc_need_table_of sp2_len (fun cdv A outer s H vs Q E hr h => ?_)
  obtain ⟨x, y, rfl, R, M, ds, tab, hd, ht, r1, r2, m1, m2, hD, hT, q⟩ := h
  refine ⟨_, (pss_cons (ps_expr (pe_callC c_need_table hr rfl (pa_cons (pv 1) pa_nil))) (pss_one (ps_expr (pe_callC c_need_by_table hr rfl (pa_cons (pv 0) (pa_cons (pe_callB call_len_seq rfl B.len b_len (pa_cons (pv 1) pa_nil)) (pa_cons (pe_callB call_len_seq rfl B.len b_len (pa_cons (pv 1) pa_nil)) pa_nil))))))), ?_⟩
  have hR := hT.1
  subst hR
  refine ⟨_, rfl, _, rfl, tab, ht, r1, r2, hT, fun H1 g1 => ?_⟩
  obtain ⟨r, xs, rfl, hs, hall⟩ := g1.rows ht
  have hl := hall.len
  refine ⟨_, rfl, _, rfl, r, _, rfl, .inr hs, _, rfl, r, _, rfl, .inr hs, _, _, _, rfl, tab.length, M, tab.length, tab.length, ds, g1.rows hd, congrArg V.int (by rw [hl]), congrArg V.int (by rw [hl]), Int.le_refl _, Int.le_refl _, r1, r2, m1, m2, hD, fun H2 g2 => q _ (g1.trans g2)⟩
theorem sc_shared_by : FnScope ["deeds", "table", "numbers", "tree", "state", "states"] ["deeds", "table", "numbers", "tree", "state"] (defScope (top 45)) := ⟨rfl, rfl, rfl, by decide +kernel, rfl, by decide +kernel, by decide +kernel⟩
set_option maxHeartbeats 0 in
theorem ok_shared_by {n : Nat} {f : Addr} {fd : FuncData} (F : Fun K "shared_by" "shared_by" (top 45) f fd) (B : Blt mg) (c_share_by : Callee P w K mg base n "share_by" ["deeds", "table", "numbers", "tree", "state", "states"] (sp_share_by 41 K)) (c_need_tree : Callee P w K mg base n "need_tree" ["thing", "many"] (sp_need_tree K)) (c_is_within : Callee P w K mg base n "is_within" ["thing", "least", "greatest"] (sp_is_within K)) (c_need_numbers : Callee P w K mg base n "need_numbers" ["table", "thing"] (sp_need_numbers K)) (c_need_table_of : Callee P w K mg base n "need_table_of" ["deeds", "table"] (sp_need_table_of K))    :
    FnOk P w K mg base CX0 (n + 1) f fd ["deeds", "table", "numbers", "tree", "state"] (sp_shared_by K) := by
  refine F.ok sc_shared_by sp5_len (fun cdv A outer s H vs Q E hr h => ?_)
  obtain ⟨x, y, z, u, w, rfl, R, M, ds, tab, ns, t, v0, hd, hx, hy, ht, F, hD, r1, r2, m1, m2, ho, hc, l40, hh, rfl, v1, v2, q⟩ := h
  refine ⟨_, (pss_cons (ps_expr (pe_callC c_need_table_of hr rfl (pa_cons (pv 0) (pa_cons (pv 1) pa_nil)))) (pss_cons (ps_expr (pe_callC c_need_numbers hr rfl (pa_cons (pv 1) (pa_cons (pv 2) pa_nil)))) (pss_cons (ps_if (pt_not (pt_val (pe_callC c_is_within hr rfl (pa_cons (pv 4) (pa_cons pe_int (pa_cons (pe_op op_sub (pe_callB call_len_seq rfl B.len b_len (pa_cons (pe_ix ix_tup (pv 0) pe_int (fun _ _ => rfl)) pa_nil)) pe_int) pa_nil)))))) (pss_one ps_never) pss_nil) (pss_cons (ps_expr (pe_callC c_need_tree hr rfl (pa_cons (pv 3) (pa_cons (pe_callB call_len_seq rfl B.len b_len (pa_cons (pv 2) pa_nil)) pa_nil)))) (pss_cons (ps_set (i := 5) sc_shared_by.nd rfl (Or.inl rfl) (pe_lst pa_nil)) (pss_cons (ps_expr (pe_callC c_share_by hr rfl (pa_cons (pv 0) (pa_cons (pv 1) (pa_cons (pv 2) (pa_cons (pv 3) (pa_cons (pv 4) (pa_cons (pv 5) pa_nil)))))))) (pss_one (ps_ret (pe_callTy call_tuple_of rfl B.tuple b_tuple (pa_cons (pv 5) pa_nil)))))))))), ?_⟩
  have c1 := count_pos t
  refine ⟨_, rfl, _, rfl, _, _, rfl, R, M, ds, tab, hd, hx, r1, r2, m1, m2, hD, F.tab, fun H1 g1 => ?_⟩
  refine ⟨_, rfl, _, rfl, _, _, rfl, tab, ns, g1.rows hx, g1.board hy, by rw [F.tab.1]; exact F.ns, by omega, l40, fun H2 g2 => ?_⟩
  have g12 := g1.trans g2
  obtain ⟨rd, xd, rfl, hds, hdall⟩ := g12.rows hd
  obtain ⟨re, hre, hse⟩ := getRow hdall (i := 0) (by decide) (by rw [hD.1]; omega)
  have w1 := rowOk hD (i := 0) (by decide) (by omega)
  have hlr : ((ds.getD (0 : Int).toNat []).map V.int).length = M := by rw [List.length_map]; exact w1.1
  refine ⟨_, rfl, _, rfl, rd, _, _, _, rfl, rfl, hds, hre, re, _, rfl, .inr hse, _, _, rfl, rfl, _, _, _, rfl, _, _, _, rfl, rfl, rfl, _, rfl, iteF' (by rw [decide_eq_true v1, decide_eq_true (show v0 ≤ (((ds.getD (0 : Int).toNat []).map V.int).length : Int) - 1 by rw [hlr]; omega)]; rfl) ?_⟩
  obtain ⟨ry, rfl, hys⟩ := g12.board hy
  have hl : (ns.map V.int).length = ns.length := List.length_map ..
  refine ⟨_, rfl, _, rfl, ry, _, rfl, .inr hys, _, _, rfl, t, _, g12.tree ht, rfl, ho, by rw [hl]; exact hc, by rw [hl]; omega, by rw [hl]; omega, fun H3 g3 => ?_⟩
  refine ⟨szl rfl, fun l hlf => ?_⟩
  have g4 : Grow [] H3 (upd H3 l (.lst [])) := Grow.new hlf _
  have g14 := g12.trans (g3.trans g4)
  refine ⟨_, rfl, _, rfl, _, rfl, _, rfl, _, rfl, _, rfl, _, _, _, _, _, _, rfl, R, M, ds, tab, ns, t, 0, v0, l, [], g14.rows hd, g14.rows hx, g14.board hy, g14.tree ht, F, hD, ho, by decide, by omega, hh, rfl, v1, v2, rfl, upd_same, by show (0 : Int) + t.count ≤ 500; omega, fun H5 g5 hl5 => ?_⟩
  rw [List.nil_append] at hl5
  refine ⟨_, rfl, l, _, rfl, .inl ⟨SqL.of hl5, fun p hp => q _ _ ?_ ⟨p, rfl, SqT.of upd_same⟩⟩⟩
  exact g12.trans (g3.trans ((((g4.wk (m := [l])).trans g5).shrink hlf).trans (Grow.new hp _)))
theorem sc_by_table_then : FnScope ["one", "other"] ["one", "other"] (defScope (top 16)) := ⟨rfl, rfl, rfl, by decide +kernel, rfl, by decide +kernel, by decide +kernel⟩
set_option maxHeartbeats 0 in
theorem ok_by_table_then {n : Nat} {f : Addr} {fd : FuncData} (F : Fun K "by_table_then" "by_table_then" (top 16) f fd) (B : Blt mg)     :
    FnOk P w K mg base CX0 (n + 1) f fd ["one", "other"] (sp_thenF K) := by
  refine F.ok sc_by_table_then sp2_len (fun cdv A outer s H vs Q E hr h => ?_)
  obtain ⟨x, y, rfl, S, a, b, ⟨ra, rfl, ha⟩, ⟨rb, rfl, hb⟩, hS, hl, h5, q⟩ := h
  refine ⟨_, (pss_one (ps_ret (pe_callTy call_tuple_of rfl B.tuple b_tuple (pa_cons (pe_compT (CSc.of (N' := ["state", "other"]) (sub := [none, some 1]) (defScope (top 16)) ["one", "other"] rfl rfl (by decide +kernel) rfl) rfl (pi_tup (pv 0)) (fun _ _ _ _ _ _ => pg_name (i := 0) (show (["state", "other"] : List Str).Nodup by decide +kernel) rfl (Or.inl rfl)) (fun _ _ _ _ _ _ => pifs_nil) (fun _ _ _ _ _ _ => (pe_ix (ix_tupK (K := K) rfl) (pv 1) (pv 0) (fun _ _ => rfl)))) pa_nil)))), ?_⟩
  refine ⟨_, rfl, ra, rfl, ⟨_, ha⟩, comp_mapT (vi fun i => b.getD i.toNat 0) ha (by rw [List.length_map]; omega) ?_ ?_⟩
  · intro v H2 R hv g k
    obtain ⟨i, hi, rfl⟩ := List.mem_map.mp hv
    have := hS i hi
    exact ⟨_, rfl, _, rfl, rb, _, i, _, rfl, rfl, g.sqT hb, getI this.1 (by omega), k _ (Grow.refl _ _)⟩
  intro H2 l g hl
  have e : (a.map V.int).map (vi fun i => b.getD i.toNat 0) = (thenL a b).map V.int := by
    unfold thenL
    rw [List.map_map, List.map_map]; rfl
  rw [e]
  exact ⟨l, _, rfl, .inl ⟨SqL.of upd_same, fun t ht => q _ _ (g.trans ((Grow.new hl _).trans (Grow.new ht _))) ⟨t, rfl, upd_same⟩⟩⟩
theorem sc_grown : FnScope ["deeds", "leaving", "found", "newest", "following", "last", "number", "deed", "another"] ["deeds"] (defScope (top 17)) := ⟨rfl, rfl, rfl, by decide +kernel, rfl, by decide +kernel, by decide +kernel⟩
set_option maxHeartbeats 0 in
theorem ok_grown {n : Nat} {f : Addr} {fd : FuncData} (F : Fun K "grown" "grown" (top 17) f fd) (B : Blt mg) (c_by_table_then : Callee P w K mg base n "by_table_then" ["one", "other"] (sp_thenF K)) (c_need_by_table : Callee P w K mg base n "need_by_table" ["thing", "least", "most"] (sp_need_by_tableG K)) (g_enumerate : mg "enumerate" = none) {t_MOST_IN_FAMILY : Tok} (g_MOST_IN_FAMILY : mg "MOST_IN_FAMILY" = some (.int 60 t_MOST_IN_FAMILY)) {t_MOST_GIVEN : Tok} (g_MOST_GIVEN : mg "MOST_GIVEN" = some (.int 4 t_MOST_GIVEN))  :
    FnOk P w K mg base CX0 (n + 1) f fd ["deeds"] (sp_grownF K) := by
  refine F.ok sc_grown sp1_len (fun cdv A outer s H vs Q E hr h => ?_)
  obtain ⟨x, rfl, ms, S, hMk, q⟩ := h
  refine ⟨_, (pss_cons (ps_expr (pe_callC c_need_by_table hr rfl (pa_cons (pv 0) (pa_cons pe_int (pa_cons (pe_glob rfl g_MOST_GIVEN (show RelV (.int 4) (.int 4 t_MOST_GIVEN) from ⟨_, rfl⟩)) pa_nil))))) (pss_cons (ps_set (i := 1) sc_grown.nd rfl (Or.inl rfl) (pe_tupRange rfl rfl B.tuple rfl B.range (pa_cons (pe_callB call_len_seq rfl B.len b_len (pa_cons (pe_ix ix_tup (pv 0) pe_int (fun _ _ => rfl)) pa_nil)) pa_nil))) (pss_cons (ps_set (i := 2) sc_grown.nd rfl (Or.inl rfl) (pe_dispT1 (Room.u1F hr) (pv 1) (pe_tup pa_nil))) (pss_cons (ps_set (i := 3) sc_grown.nd rfl (Or.inl rfl) (pe_lst (pa_cons (pv 1) pa_nil))) (pss_cons (ps_while PassesOwn.never (pt_truth (pv 3) (fun _ => rfl)) (pss_cons (ps_set (i := 4) sc_grown.nd rfl (Or.inl rfl) (pe_lst pa_nil)) (pss_cons (ps_for PassesOwn.never rfl (pi_list (pv 3)) (pg_name (i := 5) sc_grown.nd rfl (Or.inl rfl)) (pss_one (ps_for PassesOwn.never rfl (pi_enumC true (K := K) rfl rfl g_enumerate (pa_cons (pv 0) pa_nil)) (pg_tup rfl (pgs_cons (pg_name (i := 6) sc_grown.nd rfl (Or.inl rfl)) (pgs_cons (pg_name (i := 7) sc_grown.nd rfl (Or.inl rfl)) pgs_nil))) (pss_cons (ps_set (i := 8) sc_grown.nd rfl (Or.inl rfl) (pe_callC c_by_table_then hr rfl (pa_cons (pv 5) (pa_cons (pv 7) pa_nil)))) (pss_one (ps_if (pt_cmp (pc_dnotin (Room.u1F hr) (pv 8) (pv 2))) (pss_cons (ps_dput (Room.u1F hr) (pv 2) (pv 8) (pe_op (op_catG (K := K) rfl) (pe_dget (Room.u1F hr) (pv 2) (pv 5) (fun _ _ => rfl)) (pe_tup (pa_cons (pv 6) pa_nil))) rfl) (pss_one (ps_expr (pe_bm PySem.F.plainAttrs_list PySem.F.slot_list_append PySem.F.type_list_append mt_append (pv 4) (pa_cons (pv 8) pa_nil))))) pss_nil)))))) (pss_cons (ps_if (pt_cmpR op_gt (pe_callB call_lenDT rfl B.len b_len (pa_cons (pv 2) pa_nil)) (pe_glob rfl g_MOST_IN_FAMILY (show RelV (.int 60) (.int 60 t_MOST_IN_FAMILY) from ⟨_, rfl⟩)) (nomark _)) (pss_one ps_never) pss_nil) (pss_one (ps_set (i := 3) sc_grown.nd rfl (Or.inl rfl) (pv 4))))))) (pss_one (ps_ret (pv 2)))))))), ?_⟩
  obtain ⟨hx00, hM, s1, s5, m1, m4, few⟩ := hMk
  refine ⟨_, rfl, _, _, _, rfl, ms.length, S, 1, 4, ms, hx00, rfl, rfl, by omega, by omega, m1, by omega, s1, s5, ⟨rfl, hM⟩, fun H0 g00 => ?_⟩
  have hx := g00.rows hx00
  have hx0 := hx
  obtain ⟨rt, xs, rfl, hs, hall⟩ := hx0
  have hlen := hall.len
  obtain ⟨r0, g0, s0⟩ := getRow hall (i := 0) (by decide) (by omega)
  have l0 : (ms.getD 0 []).length = S := (hM _ (getD_mem (by omega))).1
  refine ⟨_, rfl, rt, _, _, _, rfl, rfl, hs, g0, r0, _, rfl, .inr s0, S, by rw [List.length_map]; exact congrArg (fun n : Nat => [V.int n]) l0, by omega, fun t0 ht0 => ?_⟩
  refine fun l hl => ⟨_, rfl, szl rfl, fun t1 ht1 => ?_⟩
  have gA := Grow.new (m := []) ht0 (.tup ((List.range S).map fun i : Nat => V.int i))
  have hHl : H0 l = none := gA.free (by simp) hl
  have gB := Grow.new (m := []) hl (.dT [])
  have gC := Grow.new (m := []) ht1 (.tup [])
  have eD := gC.keep _ _ (by simp) (upd_same (H := upd H0 t0 (.tup ((List.range S).map fun i : Nat => V.int i))) (a := l) (o := .dT []))
  refine ⟨eD, t0, kI (idL S), rfl, ?_, ?_⟩
  · rw [kI_kV, ← idL_V]; exact (gB.trans gC).tup _ _ upd_same
  have gD := Grow.setDT (m := [l]) eD (by simp) [(kI (idL S), V.ref t1)]
  have kt0 : KeyB (upd H0 t0 (.tup ((List.range S).map fun i : Nat => V.int i))) (.ref t0) (idL S) := ⟨t0, rfl, by rw [← idL_V]; exact upd_same⟩
  refine ⟨_, rfl, szl rfl, fun lv0 hlv0 => ?_⟩
  have gE := Grow.new (m := []) hlv0 (.lst [V.ref t0])
  have gAll : Grow [l] H0 _ := (gA.wk.trans (gB.wk.trans gC.wk)).trans (gD.trans gE.wk)
  refine ⟨fun m σ H0' => ∃ (lv : Addr) (e4 e5 e6 e7 e8 : Option V) (f : FW) (last : List (List Int)) (kvs : List (List Key × V)) (zs : List V), σ = [some (.ref rt), some (.ref t0), some (.ref l), some (.ref lv), e4, e5, e6, e7, e8] ∧ Grow [l] H0 H0' ∧ H0' l = some (.dT kvs) ∧ KvF K H0' kvs f ∧ H0' lv = some (.lst zs) ∧ AllR (KeyB H0') zs last ∧ (∀ r, FamR ms f last r → FamL ms S r) ∧ LI ms S f last ∧ WL f ∧ f.length ≤ 300 ∧ m = (if last = [] then 0 else 1) + 2 * (301 - f.length), ?_, ?_⟩
  · refine ⟨_, lv0, _, _, _, _, _, [(idL S, [])], [idL S], _, _, rfl, gAll, gE.keep _ _ (by simp) upd_same, ⟨⟨rfl, t1, rfl, ?_⟩, trivial⟩, upd_same, .one (kt0.grow (((gB.trans gC).wk).trans (gD.trans gE.wk))), fun r h => h, LI.init ms S, ⟨by show 0 < 1; decide, fun q hq => by rw [List.mem_singleton.mp hq]; show 0 < 1; decide⟩, by show 1 ≤ 300; decide, rfl⟩
    exact SqT.of ((gD.trans gE.wk).tup _ _ upd_same)
  rintro m σ H2 ⟨lv, e4, e5, e6, e7, e8, f, last, kvs, zs, rfl, g2, hl2, hk2, hv2, ha2, hR, hI, hW, h300, rfl⟩
  have zl := ha2.len
  have kl := hk2.len
  have c2 := hI.good.le few
  refine ⟨_, rfl, _, .inl ⟨_, SqL.of hv2, rfl⟩, ?_⟩
  by_cases c : last = []
  · have z0 : zs = [] := List.eq_nil_of_length_eq_zero (by rw [zl, c]; rfl)
    refine iteF' (by rw [z0]; rfl) ⟨_, rfl, q _ f _ (g00.trans (g2.less fun b hb => .inr (by rw [List.mem_singleton.mp hb]; exact hHl))) ⟨l, kvs, rfl, hl2, hk2⟩ (hR f (.done (.inl c)))⟩
  have zne : zs ≠ [] := fun z => c (List.eq_nil_of_length_eq_zero (by rw [← zl, z]; rfl))
  refine iteT' (by cases zs with | nil => exact absurd rfl zne | cons _ _ => rfl) ⟨_, fun σ' H' z => z, ?_⟩
  have lastl : last.length ≤ 60 := Nat.le_trans hI.len c2
  refine ⟨szl rfl, fun p hp => ?_⟩
  have gp := Grow.new (m := []) hp (.lst [])
  have nl : l ≠ p := fun z => by rw [← z, hl2] at hp; cases hp
  have nv : lv ≠ p := fun z => by rw [← z, hv2] at hp; cases hp
  have nlv : lv ≠ l := fun z => by rw [z, hl2] at hv2; cases hv2
  have hHp : H0 p = none := g2.free (fun z => nl (List.mem_singleton.mp z).symm) hp
  have nvm : lv ∉ [l, p] := fun z => by
    rcases List.mem_cons.mp z with w | w
    · exact nlv w
    · exact nv (List.mem_singleton.mp w)
  refine ⟨_, rfl, lv, rfl, ⟨zs, SqL.of (gp.keep _ _ (by simp) hv2)⟩, for_list (xs := zs) (fun j σ H0' => ∃ (e5 e6 e7 e8 : Option V) (kvs' : List (List Key × V)) (ps : List V), σ = [some (.ref rt), some (.ref t0), some (.ref l), some (.ref lv), some (.ref p), e5, e6, e7, e8] ∧ Grow [l, p] H2 H0' ∧ H0' l = some (.dT kvs') ∧ KvF K H0' kvs' (fPass ms last j (f, [])).1 ∧ H0' p = some (.lst ps) ∧ AllR (KeyB H0') ps (fPass ms last j (f, [])).2) ⟨_, _, _, _, kvs, [], rfl, gp.wk, gp.keep _ _ (by simp) hl2, hk2.grow gp, upd_same, trivial⟩ (fun j σ H0' _ ⟨_, _, _, _, _, _, _, g, _⟩ => SqL.of (g.keep _ _ nvm hv2)) ?_ ?_⟩
  · rintro j x σ H3 hx ⟨e5, e6, e7, e8, kvs3, ps3, rfl, g3, hl3, hk3, hp3, ha3⟩
    obtain ⟨d, hd, kd⟩ := ha2.get hx
    have hj : j < last.length := (List.getElem?_eq_some_iff.mp hd).1
    have ed : last.getD j [] = d := by rw [List.getD_eq_getElem?_getD, hd]; rfl
    have dm : d ∈ last := by rw [← ed]; exact getD_mem hj
    have dw := hI.good.wd d (hI.sub d dm)
    have ddd := dw.dd hM
    have dk : d ∈ keysF (fPass ms last j (f, [])).1 := (fPass_ex j).keys (hI.sub d dm)
    have fl := fPass_le (ms := ms) (last := last) (fm := (f, [])) j
    have fl2 : (fPass ms last j (f, [])).1.length ≤ 296 := by
      have h1 : j * ms.length ≤ 59 * 4 := Nat.mul_le_mul (by omega) m4
      have h2 : (f, ([] : List (List Int))).1.length = f.length := rfl
      omega
    have wl := fPass_wl (ms := ms) (last := last) (fm := (f, [])) hW j
    have ml : (fPass ms last j (f, [])).2.length ≤ (fPass ms last j (f, [])).1.length := ex_len (fPass_ex j) (Nat.zero_le _)
    show tFor _ _ _ _ _ _
    have eP : fPass ms last (j + 1) (f, []) = fRow ms d ms.length (fPass ms last j (f, [])) := by rw [← ed]; rfl
    rw [eP]
    revert hk3 ha3 dk fl2 wl ml
    generalize fPass ms last j (f, []) = fm
    intro hk3 ha3 dk fl2 wl ml
    have hall2 := g2.boardsR hall
    refine ⟨_, rfl, rt, _, rfl, ((g2.mono (m' := [l, p]) (by simp)).trans g3).sqT hs, for_enum (xs := xs) (fun i σ H0' => ∃ (e6 e7 e8 : Option V) (kvs' : List (List Key × V)) (ps : List V), σ = [some (.ref rt), some (.ref t0), some (.ref l), some (.ref lv), some (.ref p), some x, e6, e7, e8] ∧ Grow [l, p] H2 H0' ∧ H0' l = some (.dT kvs') ∧ KvF K H0' kvs' (fRow ms d i fm).1 ∧ H0' p = some (.lst ps) ∧ AllR (KeyB H0') ps (fRow ms d i fm).2) ⟨_, _, _, kvs3, ps3, rfl, g3, hl3, hk3, hp3, ha3⟩ (fun i σ H0' _ ⟨_, _, _, _, _, _, g, _⟩ => ((g2.mono (m' := [l, p]) (by simp)).trans g).sqT hs) ?_ ?_⟩
    · rintro i xm σ H4 T hxm ⟨e6, e7, e8, kvs4, ps4, rfl, g4, hl4, hk4, hp4, ha4⟩ hT
      obtain ⟨mk, hmk, bm⟩ := hall2.get hxm
      have hi : i < ms.length := (List.getElem?_eq_some_iff.mp hmk).1
      have em : ms.getD i [] = mk := by rw [List.getD_eq_getElem?_getD, hmk]; rfl
      have mm : mk ∈ ms := by rw [← em]; exact getD_mem hi
      have mdd := hM mk mm
      have gT := Grow.new (m := []) hT (.tup [.int i, xm])
      refine ⟨T, _, rfl, SqT.of upd_same, rfl, _, _, rfl, _, _, rfl, rfl, ?_⟩
      refine ⟨_, rfl, _, rfl, _, _, rfl, S, d, mk, (g4.trans gT.wk).board kd.board, (g4.trans gT.wk).board bm, ddd.2, mdd.1, by rw [ddd.1]; exact s5, fun y H5 g5 ky => ?_⟩
      have g45 : Grow [l, p] H4 H5 := (gT.trans g5).wk
      have g25 := g4.trans g45
      have hl5 := (gT.trans g5).keep _ _ (by simp) hl4
      have hp5 := (gT.trans g5).keep _ _ (by simp) hp4
      have hk5 := hk4.grow g45
      have ha5 := ha4.imp fun _ _ z => z.grow g45
      have rl := fRow_le (ms := ms) (d := d) (fm := fm) i
      have rw5 := fRow_wl (ms := ms) (d := d) wl i
      have dk5 : d ∈ keysF (fRow ms d i fm).1 := (fRow_ex i).keys dk
      have ml5 : (fRow ms d i fm).2.length ≤ (fRow ms d i fm).1.length := ex_len (fRow_ex i) ml
      have eS : fRow ms d (i + 1) fm = fStep d (fRow ms d i fm) i mk := by rw [← em]; rfl
      rw [eS]
      revert hk5 ha5 rl rw5 dk5 ml5
      generalize fRow ms d i fm = fr
      intro hk5 ha5 rl rw5 dk5 ml5
      have kl5 := hk5.len
      obtain ⟨yb, rfl, hyb⟩ := ky
      obtain ⟨xb, rfl, hxb⟩ := kd.grow g25
      rw [← kI_kV] at hyb hxb
      rcases hk5.val (thenL d mk) with ⟨v, w, hv, hw, _⟩ | ⟨hv, hw⟩
      · refine ⟨_, rfl, _, rfl, l, _, rfl, DGet.t hl5 hyb, _, rfl, iteF' (by rw [hv]; rfl) ?_⟩
        have e : fStep d fr i mk = fr := by unfold fStep; rw [hw]; rfl
        rw [e]
        exact ⟨_, _, _, kvs4, ps4, rfl, g25, hl5, hk5, hp5, ha5⟩
      · refine ⟨_, rfl, _, rfl, l, _, rfl, DGet.t hl5 hyb, _, rfl, iteT' (by rw [hv]; rfl) ?_⟩
        obtain ⟨wd, hwd⟩ := wordOf_some dk5
        rcases hk5.val d with ⟨v2, w2, hv2, hw2, bw2⟩ | ⟨_, hw2⟩
        rotate_left
        · rw [hw2] at hwd; cases hwd
        have e : fStep d fr i mk = (fr.1 ++ [(thenL d mk, w2 ++ [(i : Int)])], fr.2 ++ [thenL d mk]) := by unfold fStep; rw [hw, hw2]; rfl
        rw [e]
        have w2l := rw5.2 _ (wordOf_in hw2)
        have w2l' : w2.length < fr.1.length := w2l
        obtain ⟨wb, rfl, hwb⟩ := bw2
        refine ⟨_, rfl, _, rfl, l, _, rfl, hv2 ▸ DGet.t hl5 hxb, _, rfl, szl rfl, fun t2 ht2 => ?_⟩
        have gt2 := Grow.new (m := []) ht2 (.tup [.int i])
        refine ⟨wb, t2, _, _, rfl, rfl, gt2.sqT hwb, SqT.of upd_same, Nat.le_of_lt (small1000 (by rw [List.length_map]; show _ + 1 ≤ 1000; omega)), fun p2 H6 g6 h6 => ?_⟩
        have g56 := gt2.trans g6
        have hl6 := g56.keep _ _ (by simp) hl5
        have hp6 := g56.keep _ _ (by simp) hp5
        have hyb6 := g56.tup _ _ hyb
        refine ⟨_, rfl, _, rfl, l, _, rfl, DPut.t hl6 hyb6 (small1000 (by omega)), ?_⟩
        rw [putK_new _ hv]
        have g67 := Grow.setDT (m := [l, p]) hl6 (by simp) (kvs4 ++ [(kI (thenL d mk), V.ref p2)])
        have hp7 : upd H6 l (.dT (kvs4 ++ [(kI (thenL d mk), V.ref p2)])) p = some (.lst ps4) := by rw [upd_ne (Ne.symm nl)]; exact hp6
        have pl5 := ha5.len
        refine ⟨_, rfl, .inl ⟨rfl, _, SqL.of hp7⟩, _, rfl, p, ps4, _, rfl, rfl, hp7, small1000 (by omega), ?_⟩
        have g78 := Grow.set (m := [l, p]) hp7 (by simp) (ps4 ++ [V.ref yb])
        have g58 := (g56.wk (m := [l, p])).trans (g67.trans g78)
        have h6' : BoardAt K H6 (.ref p2) (w2 ++ [(i : Int)]) := ⟨p2, rfl, by rw [List.map_append]; exact h6⟩
        refine ⟨_, _, _, _, _, rfl, g25.trans g58, ?_, (hk5.grow g58).app (show KvF K _ [(kI (thenL d mk), V.ref p2)] [(thenL d mk, w2 ++ [(i : Int)])] from ⟨⟨rfl, (g67.trans g78).board h6'⟩, trivial⟩), upd_same, (ha5.imp fun _ _ z => z.grow g58).app (.one ⟨yb, rfl, ?_⟩)⟩
        · rw [upd_ne nl]; exact upd_same
        · rw [kI_kV] at hyb; exact g58.tup _ _ hyb
    · rintro σ H4 ⟨e6, e7, e8, kvs4, ps4, rfl, g4, hl4, hk4, hp4, ha4⟩
      rw [hlen] at hk4 ha4
      exact ⟨_, _, _, _, kvs4, ps4, rfl, g4, hl4, hk4, hp4, ha4⟩
  · rintro σ H3 ⟨e5, e6, e7, e8, kvs3, ps3, rfl, g3, hl3, hk3, hp3, ha3⟩
    rw [zl] at hk3 ha3
    have hg := fPass_grows (ms := ms) (last := last) (f := f) (j := last.length)
    have fl := fPass_le (ms := ms) (last := last) (fm := (f, [])) last.length
    have fl2 : (fPass ms last last.length (f, [])).1.length ≤ 300 := by
      have h1 : last.length * ms.length ≤ 60 * 4 := Nat.mul_le_mul lastl m4
      have h2 : (f, ([] : List (List Int))).1.length = f.length := rfl
      omega
    have h60p := hI.pass.good.le few
    have kl3 := hk3.len
    refine ⟨_, rfl, l, kvs3, rfl, hl3, _, _, rfl, rfl, _, rfl, iteF' (decide_eq_false (by omega)) ?_⟩
    refine ⟨_, rfl, _, ?_, p, _, _, _, _, _, _, _, kvs3, ps3, rfl, ?_, hl3, hk3, hp3, ha3, fun r hr => hR r (.step c c2 hr), hI.pass, fPass_wl hW _, fl2, rfl⟩
    · rw [if_neg c]
      split
      · have := (fPass_ex (ms := ms) (last := last) (fm := (f, [])) last.length)
        obtain ⟨g, e1, _⟩ := this
        have : f.length ≤ (fPass ms last last.length (f, [])).1.length := by rw [e1, List.length_append]; exact Nat.le_add_right _ _
        omega
      · rename_i c3
        have := hg c3
        omega
    · refine ((g2.mono (m' := [l, p]) (by simp)).trans g3).less fun b hb => ?_
      rcases List.mem_cons.mp hb with rfl | hb
      · exact .inl (by simp)
      · rw [List.mem_singleton.mp hb]; exact .inr hHp
theorem sc_family : FnScope ["deeds"] ["deeds"] (defScope (top 18)) := ⟨rfl, rfl, rfl, by decide +kernel, rfl, by decide +kernel, by decide +kernel⟩
set_option maxHeartbeats 0 in
theorem ok_family {n : Nat} {f : Addr} {fd : FuncData} (F : Fun K "family" "family" (top 18) f fd) (B : Blt mg) (c_grown : Callee P w K mg base n "grown" ["deeds"] (sp_grownF K))    :
    FnOk P w K mg base CX0 (n + 1) f fd ["deeds"] (sp_famP K) := by
  refine F.ok sc_family sp1_len (fun cdv A outer s H vs Q E hr h => ?_)
  obtain ⟨x, rfl, ms, S, hMk, q⟩ := h
  refine ⟨_, (pss_one (ps_ret (pe_callTy (call_tupleDT hr) rfl B.tuple b_tuple (pa_cons (pe_callC c_grown hr rfl (pa_cons (pv 0) pa_nil)) pa_nil)))), ?_⟩
  refine ⟨_, rfl, _, rfl, ms, S, hMk, fun y f H1 g1 hW hL => ?_⟩
  obtain ⟨l, kvs, rfl, hl, hk⟩ := hW
  refine ⟨l, kvs, rfl, hl, fun t zs ht zl hz => ?_⟩
  exact q _ f _ (g1.trans (Grow.new ht _)) ⟨t, zs, rfl, SqT.of upd_same, (keys_keyB hz hk.keys).imp fun _ _ z => z.grow (Grow.new (m := []) ht _)⟩ hL
theorem sc_own_table : FnScope ["deeds", "members", "numbers"] ["deeds"] (defScope (top 43)) := ⟨rfl, rfl, rfl, by decide +kernel, rfl, by decide +kernel, by decide +kernel⟩
set_option maxHeartbeats 0 in
theorem ok_own_table {n : Nat} {f : Addr} {fd : FuncData} (F : Fun K "own_table" "own_table" (top 43) f fd) (B : Blt mg) (c_by_table_then : Callee P w K mg base n "by_table_then" ["one", "other"] (sp_thenF K)) (c_family : Callee P w K mg base n "family" ["deeds"] (sp_famP K)) (g_enumerate : mg "enumerate" = none)   :
    FnOk P w K mg base CX0 (n + 1) f fd ["deeds"] (sp_ownP K) := by
  refine F.ok sc_own_table sp1_len (fun cdv A outer s H vs Q E hr h => ?_)
  obtain ⟨x, rfl, ms, S, hMk, q⟩ := h
  refine ⟨_, (pss_cons (ps_set (i := 1) sc_own_table.nd rfl (Or.inr rfl) (pe_callC c_family hr rfl (pa_cons (pv 0) pa_nil))) (pss_cons (ps_set (i := 2) sc_own_table.nd rfl (Or.inr rfl) (pe_compD (Room.u1F hr) (CSc.of (N' := ["number", "member"]) (sub := [none, none]) (defScope (top 43)) ["deeds", "members", "numbers"] rfl rfl (by decide +kernel) rfl) rfl (pi_enumC true (K := K) rfl rfl g_enumerate (pa_cons (pv 1) pa_nil)) (fun _ _ _ _ _ _ => pg_tupK (K := K) 2 rfl rfl (pgs_cons (pg_name (i := 0) (show (["number", "member"] : List Str).Nodup by decide +kernel) rfl (Or.inl rfl) (Or.inr rfl)) (pgs_cons (pg_name (i := 1) (show (["number", "member"] : List Str).Nodup by decide +kernel) rfl (Or.inl rfl) (Or.inr rfl)) pgs_nil)) rfl rfl) (fun _ _ _ _ _ _ => pifs_nil) (fun _ _ _ _ _ _ => (pv 1)) (fun _ _ _ _ _ _ => (pv 0)))) (pss_one (ps_ret (pe_callTy call_tuple_of rfl B.tuple b_tuple (pa_cons (pe_compC (CScC.of (N' := ["one", "members", "numbers"]) (sub := [none, some 1, some 2]) (defScope (top 43)) ["deeds", "members", "numbers"] rfl rfl (by decide +kernel) (by decide +kernel) rfl) rfl (pi_tup (pv 1)) (fun _ _ _ _ _ _ => pg_name (i := 0) (show (["one", "members", "numbers"] : List Str).Nodup by decide +kernel) rfl (Or.inr rfl) (Or.inl rfl)) (fun _ _ _ _ _ _ => pifs_nil) (fun _ _ _ _ _ _ => (pe_callTy (call_tupleK (K := K) rfl) rfl B.tuple b_tuple (pa_cons (pe_compT (CSc.nestO (N2 := ["other", "numbers", "one"]) (sub2 := [none, some 2, some 0]) (CScC.of (N' := ["one", "members", "numbers"]) (sub := [none, some 1, some 2]) (defScope (top 43)) ["deeds", "members", "numbers"] rfl rfl (by decide +kernel) (by decide +kernel) rfl) rfl (by decide +kernel) rfl) rfl (pi_tupK (K := K) rfl (pv 1)) (fun _ _ _ _ _ _ => pg_name (i := 0) (show (["other", "numbers", "one"] : List Str).Nodup by decide +kernel) rfl (Or.inl rfl)) (fun _ _ _ _ _ _ => pifs_nil) (fun _ _ _ _ _ _ => (pe_dget (Room.u1F hr) (pv 1) (pe_callC c_by_table_then hr rfl (pa_cons (pv 2) (pa_cons (pv 0) pa_nil))) (fun _ _ => rfl)))) pa_nil)))) pa_nil)))))), ?_⟩
  refine ⟨_, rfl, _, rfl, ms, S, hMk, fun y f H1 g1 hB hL => ?_⟩
  have hF := hL.fam hMk.ok hMk.few
  have s5 := hMk.s5
  refine c_name ?_
  revert hF
  generalize hfam : keysF f = fam at hB
  intro hF
  obtain ⟨r, xs, rfl, hs, ha⟩ := hB
  have xl := ha.len
  have f60 := hF.l60
  refine ⟨_, rfl, r, _, rfl, hs, comp_enumD (xs := xs) (fun i zs σ' H' => (∃ e0 e1 : Option V, σ' = [e0, e1]) ∧ zs = numKV 0 (fam.take i) ∧ Grow [] H1 H') ⟨⟨_, _, rfl⟩, rfl, Grow.refl _ _⟩ (fun i zs σ H' p => p.2.2.sqT hs) ?_ ?_⟩
  · rintro i x zs σ H2 T hx ⟨⟨e0, e1, rfl⟩, rfl, g2⟩ hT
    obtain ⟨d, hd, b, rfl, hb⟩ := ha.get hx
    have hi : i < fam.length := (List.getElem?_eq_some_iff.mp hd).1
    have ed : fam[i] = d := (List.getElem?_eq_some_iff.mp hd).2
    have gT := Grow.new (m := []) hT (.tup [.int i, .ref b])
    have tk : fam.take (i + 1) = fam.take i ++ [d] := by rw [List.take_succ, hd]; rfl
    have nt : d ∉ fam.take i := fun z => by
      have := hF.nd
      rw [← List.take_append_drop (i + 1) fam, tk] at this
      have := (List.nodup_append.mp this).1
      exact (List.nodup_append.mp this).2.2 d z d (List.mem_singleton.mpr rfl) rfl
    have pk : putK (numKV 0 (fam.take i)) (kI d) (V.int i) = numKV 0 (fam.take (i + 1)) := by
      rw [putK_new _ (numKV_no 0 nt), tk, numKV_app, Nat.zero_add, List.length_take, Nat.min_eq_left (Nat.le_of_lt hi)]; rfl
    refine ⟨T, _, rfl, SqT.of upd_same, rfl, _, _, rfl, _, _, rfl, rfl, ?_⟩
    refine ⟨_, rfl, _, rfl, small1000 (by rw [numKV_len, List.length_take]; omega), b, kI d, rfl, by rw [kI_kV]; exact hb, ⟨_, _, rfl⟩, pk, g2.trans gT⟩
  rintro zs σ H2 ⟨_, rfl, g2⟩ l hl
  rw [xl, List.take_length]
  refine c_name ?_
  have gl := Grow.new (m := []) hl (.dT (numKV 0 fam))
  have hl3 : upd H2 l (.dT (numKV 0 fam)) l = some (.dT (numKV 0 fam)) := upd_same
  have g3 := g2.trans gl
  revert hl3 g3
  generalize upd H2 l (.dT (numKV 0 fam)) = H3
  intro hl3 g3
  have hs3 := g3.sqT hs
  have ha3 := ha.imp fun _ _ z => z.grow g3
  refine ⟨_, rfl, r, rfl, ⟨_, hs3⟩, comp_tupP (xs := xs) (fun i ys H' => AllR (BoardAt K H') ys ((fam.take i).map fun a => fam.map fun b => (ixF fam (thenL a b) : Int)) ∧ Grow [] H3 H') ⟨trivial, Grow.refl _ _⟩ (fun i ys H' p => p.2.sqT hs3) ?_ ?_⟩
  · rintro i x ys H4 hx ⟨hy, g4⟩
    obtain ⟨a, hka, ka⟩ := ha3.get hx
    have hma : a ∈ fam := List.mem_of_getElem? hka
    have hi : i < fam.length := (List.getElem?_eq_some_iff.mp hka).1
    have tk : fam.take (i + 1) = fam.take i ++ [a] := by rw [List.take_succ, hka]; rfl
    refine ⟨_, rfl, r, rfl, ⟨_, g4.sqT hs3⟩, comp_tupP (xs := xs) (fun j zs H' => zs = ((fam.take j).map fun b => (ixF fam (thenL a b) : Int)).map V.int ∧ Grow [] H4 H') ⟨rfl, Grow.refl _ _⟩ (fun j zs H' p => (g4.trans p.2).sqT hs3) ?_ ?_⟩
    · rintro j x2 zs H5 hx2 ⟨rfl, g5⟩
      obtain ⟨b, hkb, kb⟩ := ha3.get hx2
      have hmb : b ∈ fam := List.mem_of_getElem? hkb
      have hj : j < fam.length := (List.getElem?_eq_some_iff.mp hkb).1
      have tkb : fam.take (j + 1) = fam.take j ++ [b] := by rw [List.take_succ, hkb]; rfl
      have g35 := g4.trans g5
      refine ⟨_, rfl, _, rfl, _, rfl, _, _, rfl, S, a, b, (ka.grow g35).board, (kb.grow g35).board, (hF.dd a hma).2, (hF.dd b hmb).1, by rw [(hF.dd a hma).1]; exact s5, fun y6 H6 g6 k6 => ?_⟩
      obtain ⟨b6, rfl, hb6⟩ := k6
      rw [← kI_kV] at hb6
      have hv := numKV_val 0 (hF.cl a hma b hmb)
      rw [Nat.zero_add] at hv
      refine ⟨l, _, rfl, hv ▸ DGet.t ((g35.trans g6).keep _ _ (by simp) hl3) hb6, small1000 (by rw [List.length_map, List.length_map, List.length_take]; omega), ?_, g5.trans g6⟩
      rw [tkb, List.map_append, List.map_append]; rfl
    · rintro zs H5 ⟨rfl, g5⟩ lz hlz
      rw [xl, List.take_length]
      refine ⟨lz, _, rfl, .inl ⟨SqL.of upd_same, fun tz htz => ?_⟩⟩
      have gz := g5.trans ((Grow.new (m := []) hlz (.lst ((fam.map fun b => (ixF fam (thenL a b) : Int)).map V.int))).trans (Grow.new htz (.tup ((fam.map fun b => (ixF fam (thenL a b) : Int)).map V.int))))
      refine ⟨small1000 (by rw [hy.len, List.length_map, List.length_take]; omega), ?_, g4.trans gz⟩
      rw [tk, List.map_append]
      exact (gz.boardsR hy).app (.one ⟨tz, rfl, SqT.of upd_same⟩)
  rintro ys H4 ⟨hy, g4⟩ lz hlz
  rw [xl, List.take_length] at hy
  refine ⟨lz, _, rfl, .inl ⟨SqL.of upd_same, fun tz htz => ?_⟩⟩
  have gz := (Grow.new (m := []) hlz (.lst ys)).trans (Grow.new htz (.tup ys))
  refine q _ f _ (g1.trans (g3.trans (g4.trans gz))) hL ?_
  rw [hfam]
  exact ⟨tz, ys, rfl, SqT.of upd_same, gz.boardsR hy⟩
theorem sc__law_draw : FnScope ["_law_store_here", "_law_many", "_law_digit"] ["_law_store_here", "_law_many"] (defScope (top 48)) := ⟨rfl, rfl, rfl, by decide +kernel, rfl, by decide +kernel, by decide +kernel⟩
set_option maxHeartbeats 0 in
theorem ok__law_draw {n : Nat} {f : Addr} {fd : FuncData} (F : Fun K "_law_draw" "_law_draw" (top 48) f fd) (B : Blt mg)     :
    FnOk P w K mg base CX0 (n + 1) f fd ["_law_store_here", "_law_many"] (sp_draw K) := by
  refine F.ok sc__law_draw sp2_len (fun cdv A outer s H vs Q E hr h => ?_)
  obtain ⟨x, y, rfl, a, m, rfl, rfl, ⟨p0, p1, hp, h0⟩, hm, hm2, q⟩ := h
  refine ⟨_, (pss_cons (ps_if (pt_cmpR op_gt (pe_ix ix_list (pv 0) pe_int (fun _ _ => rfl)) pe_int (nomark _)) (pss_cons (ps_set (i := 2) sc__law_draw.nd rfl (Or.inl rfl) (pe_op op_mod (pe_ix ix_list (pv 0) pe_int (fun _ _ => rfl)) (pv 1))) (pss_cons (ps_asg (pe_op op_fdivL (pe_ix ix_list (pv 0) pe_int (fun _ _ => rfl)) (pv 1)) (pg_sub (pv 0) pe_int set_list)) (pss_one (ps_ret (pv 2))))) pss_nil) (pss_cons (ps_asg (pe_op op_mod (pe_op op_add (pe_op op_mulG (pe_ix ix_list (pv 0) pe_int (fun _ _ => rfl)) pe_int) pe_int) pe_int) (pg_sub (pv 0) pe_int set_list)) (pss_one (ps_ret (pe_op op_mod (pe_op op_fdivL (pe_op op_mod (pe_op op_pow (pe_ix ix_list (pv 0) pe_int (fun _ _ => rfl)) pe_int) pe_int) pe_int) (pv 1)))))), ?_⟩
  refine ⟨_, rfl, a, _, _, _, rfl, rfl, SqL.of hp, rfl, _, _, rfl, rfl, _, rfl, ?_⟩
  refine ite2 (fun c => ?_) (fun c => ?_)
  · refine ⟨_, rfl, a, _, _, _, rfl, rfl, SqL.of hp, rfl, _, rfl, p0, m, rfl, rfl, hm, ?_⟩
    refine ⟨_, rfl, a, _, _, _, rfl, rfl, SqL.of hp, rfl, _, rfl, p0, m, rfl, rfl, ⟨hm, hm2⟩, _, rfl, a, _, 0, 0, rfl, rfl, hp, rfl, ?_⟩
    exact ⟨_, rfl, q _ _ (Int.emod_nonneg _ (by omega)) (Int.emod_lt_of_pos _ hm) (Grow.set hp (by simp) _) ⟨p0 / m, p1, upd_same, Int.ediv_nonneg h0 (by omega)⟩⟩
  · refine ⟨_, rfl, a, _, _, _, rfl, rfl, SqL.of hp, rfl, p1, 48271, rfl, rfl, mulOkR ⟨by decide, by decide⟩, _, _, rfl, rfl, _, _, rfl, rfl, (by show (0 : Int) < 2147483647; decide), _, rfl, a, _, 1, 1, rfl, rfl, hp, rfl, ?_⟩
    have b0 : 0 ≤ (p1 * 48271 + 12289) % 2147483647 := Int.emod_nonneg _ (by decide)
    have b1 : (p1 * 48271 + 12289) % 2147483647 < 2147483647 := Int.emod_lt_of_pos _ (by decide)
    refine ⟨_, rfl, a, _, _, _, rfl, rfl, SqL.of upd_same, rfl, _, _, rfl, rfl, ⟨by decide, by decide, by omega⟩, _, _, rfl, rfl, (by show (0 : Int) < 2147483563; decide), _, _, rfl, rfl, ⟨by decide, by decide⟩, _, rfl, _, _, rfl, rfl, hm, ?_⟩
    exact q _ _ (Int.emod_nonneg _ (by omega)) (Int.emod_lt_of_pos _ hm) (Grow.set hp (by simp) _) ⟨p0, (p1 * 48271 + 12289) % 2147483647, upd_same, h0⟩
theorem sc__law_tree : FnScope ["_law_store_here", "_law_first", "_law_many", "_law_left", "_law_one"] ["_law_store_here", "_law_first", "_law_many"] (defScope (top 49)) := ⟨rfl, rfl, rfl, by decide +kernel, rfl, by decide +kernel, by decide +kernel⟩
set_option maxHeartbeats 0 in
theorem ok__law_tree {n : Nat} {f : Addr} {fd : FuncData} (F : Fun K "_law_tree" "_law_tree" (top 49) f fd) (B : Blt mg) {N : Nat} (c__law_tree : Callee P w K mg base n "_law_tree" ["_law_store_here", "_law_first", "_law_many"] (sp_tree3 N K)) (c__law_draw : Callee P w K mg base n "_law_draw" ["_law_store_here", "_law_many"] (sp_draw K))    :
    FnOk P w K mg base CX0 (n + 1) f fd ["_law_store_here", "_law_first", "_law_many"] (sp_tree3 (N + 1) K) := by
  refine F.ok sc__law_tree sp3_len (fun cdv A outer s H vs Q E hr h => ?_)
  obtain ⟨x, y, z, rfl, a, f0, m, rfl, rfl, rfl, pp, f1, m0, m1, fm, q⟩ := h
  refine ⟨_, (pss_cons (ps_if (pt_cmpR op_eq (pv 2) pe_int (nomark _)) (pss_one (ps_ret (pv 1))) pss_nil) (pss_cons (ps_set (i := 3) sc__law_tree.nd rfl (Or.inl rfl) (pe_op op_add pe_int (pe_callC c__law_draw hr rfl (pa_cons (pv 0) (pa_cons (pe_op op_sub (pv 2) pe_int) pa_nil))))) (pss_cons (ps_set (i := 4) sc__law_tree.nd rfl (Or.inl rfl) (pe_callC c__law_tree hr rfl (pa_cons (pv 0) (pa_cons (pv 1) (pa_cons (pv 3) pa_nil))))) (pss_one (ps_ret (pe_tup (pa_cons (pv 4) (pa_cons (pe_callC c__law_tree hr rfl (pa_cons (pv 0) (pa_cons (pe_op op_add (pv 1) (pv 3)) (pa_cons (pe_op op_sub (pv 2) (pv 3)) pa_nil)))) pa_nil)))))))), ?_⟩
  refine ⟨_, rfl, rfl, _, rfl, ?_⟩
  by_cases cm : m = 1
  · subst cm
    exact iteT' (decide_eq_true rfl) ⟨_, rfl, q _ (.leaf f0) _ (Grow.refl _ _) pp rfl rfl rfl Nat.zero_lt_one ⟨by omega, by omega⟩⟩
  refine iteF' (decide_eq_false fun z => cm (V.int.inj z)) ?_
  refine ⟨_, rfl, _, rfl, _, _, rfl, rfl, _, _, rfl, a, _, rfl, rfl, pp, by omega, by omega, fun n1 H1 l1 u1 g1 pp1 => ⟨_, _, rfl, rfl, ?_⟩⟩
  refine ⟨_, rfl, _, rfl, _, rfl, _, _, _, rfl, a, f0, 1 + n1, rfl, rfl, rfl, pp1, f1, by omega, by omega, by omega, fun y2 T2 H2 g2 pp2 h2 o2 k2 d2 n2 => ?_⟩
  refine ⟨_, rfl, _, rfl, _, rfl, _, rfl, _, _, rfl, rfl, _, rfl, _, rfl, _, _, rfl, rfl, _, _, _, rfl, a, f0 + (1 + n1), m - (1 + n1), rfl, rfl, rfl, pp2, by omega, by omega, by omega, by omega, fun y3 T3 H3 g3 pp3 h3 o3 k3 d3 n3 => ⟨szl rfl, fun t4 ht4 => ?_⟩⟩
  have g4 : Grow [a] H3 (upd H3 t4 (.tup [y2, y3])) := Grow.new ht4 _
  refine q _ (.node T2 T3) _ (g1.trans (g2.trans (g3.trans g4))) (pp3.new ht4 _) ⟨t4, y2, y3, rfl, SqT.of upd_same, g4.tree (g3.tree h2), g4.tree h3⟩ ⟨o2, by rw [k2]; exact o3⟩ ?_ ?_ ⟨n2, n3⟩
  · show T2.count + T3.count = m; omega
  · show max T2.ht T3.ht + 1 < m.toNat; omega
theorem sc_need_deed : FnScope ["thing"] ["thing"] (defScope (top 24)) := ⟨rfl, rfl, rfl, by decide +kernel, rfl, by decide +kernel, by decide +kernel⟩
set_option maxHeartbeats 0 in
theorem ok_need_deed {n : Nat} {f : Addr} {fd : FuncData} (F : Fun K "need_deed" "need_deed" (top 24) f fd) (B : Blt mg) (c_is_deed : Callee P w K mg base n "is_deed" ["thing"] (sp_is_deed K))    :
    FnOk P w K mg base CX0 (n + 1) f fd ["thing"] (sp_need_deed K) := by
  refine F.ok sc_need_deed sp1_len (fun cdv A outer s H vs Q E hr h => ?_)
  obtain ⟨x, rfl, d, ⟨a, rfl, hs⟩, hd, q⟩ := h
  refine ⟨_, (pss_one (ps_if (pt_not (pt_val (pe_callC c_is_deed hr rfl (pa_cons (pv 0) pa_nil)))) (pss_one ps_never) pss_nil)), ?_⟩
  have e := tupDeed_ok hd
  refine ⟨_, rfl, _, rfl, .inr ⟨a, _, rfl, hs, ?_, _, rfl, ?_⟩⟩
  · intro y hy
    rcases List.mem_cons.mp hy with rfl | hy
    · exact kn_int
    rcases List.mem_cons.mp hy with rfl | hy
    · exact kn_ov _
    rcases List.mem_cons.mp hy with rfl | hy
    · exact kn_ov _
    cases hy
  · rw [e]; exact iteF q
theorem sc_done : FnScope ["deed", "value"] ["deed", "value"] (defScope (top 26)) := ⟨rfl, rfl, rfl, by decide +kernel, rfl, by decide +kernel, by decide +kernel⟩
set_option maxHeartbeats 0 in
theorem ok_done {n : Nat} {f : Addr} {fd : FuncData} (F : Fun K "done" "done" (top 26) f fd) (B : Blt mg) (c_made : Callee P w K mg base n "made" ["deed", "value"] (sp_made K)) (c_need_deed : Callee P w K mg base n "need_deed" ["thing"] (sp_need_deed K)) (c_need_value : Callee P w K mg base n "need_value" ["thing"] (sp_need_value K))    :
    FnOk P w K mg base CX0 (n + 1) f fd ["deed", "value"] (sp_done K) := by
  refine F.ok sc_done sp2_len (fun cdv A outer s H vs Q E hr h => ?_)
  obtain ⟨x, y, rfl, d, v, hd, ok, rfl, q⟩ := h
  refine ⟨_, (pss_cons (ps_expr (pe_callC c_need_value hr rfl (pa_cons (pv 1) pa_nil))) (pss_cons (ps_expr (pe_callC c_need_deed hr rfl (pa_cons (pv 0) pa_nil))) (pss_one (ps_ret (pe_callC c_made hr rfl (pa_cons (pv 0) (pa_cons (pv 1) pa_nil))))))), ?_⟩
  refine ⟨_, rfl, _, rfl, v, rfl, ?_⟩
  refine ⟨_, rfl, _, rfl, d, hd, ok, ?_⟩
  exact ⟨_, rfl, _, rfl, _, _, rfl, d, v, hd, rfl, q⟩
theorem sc__law_by_table : FnScope ["_law_deed_here", "_law_states"] ["_law_deed_here", "_law_states"] (defScope (top 51)) := ⟨rfl, rfl, rfl, by decide +kernel, rfl, by decide +kernel, by decide +kernel⟩
set_option maxHeartbeats 0 in
theorem ok__law_by_table {n : Nat} {f : Addr} {fd : FuncData} (F : Fun K "_law_by_table" "_law_by_table" (top 51) f fd) (B : Blt mg) (c_done : Callee P w K mg base n "done" ["deed", "value"] (sp_done K))    :
    FnOk P w K mg base CX0 (n + 1) f fd ["_law_deed_here", "_law_states"] (sp_byt68 K) := by
  refine F.ok sc__law_by_table sp2_len (fun cdv A outer s H vs Q E hr h => ?_)
  obtain ⟨x, y, rfl, d, S, hd, ok, rfl, s5, q⟩ := h
  refine ⟨_, (pss_one (ps_ret (pe_callTy call_tuple_of rfl B.tuple b_tuple (pa_cons (pe_compT (CSc.of (N' := ["_law_state", "_law_deed_here"]) (sub := [none, some 0]) (defScope (top 51)) ["_law_deed_here", "_law_states"] rfl rfl (by decide +kernel) rfl) rfl (pi_range1 rfl B.range (pa_cons (pv 1) pa_nil)) (fun _ _ _ _ _ _ => pg_name (i := 0) (show (["_law_state", "_law_deed_here"] : List Str).Nodup by decide +kernel) rfl (Or.inl rfl)) (fun _ _ _ _ _ _ => pifs_nil) (fun _ _ _ _ _ _ => (pe_callC c_done hr rfl (pa_cons (pv 1) (pa_cons (pv 0) pa_nil))))) pa_nil)))), ?_⟩
  refine ⟨_, rfl, _, rfl, by omega, by omega, comp_rng (fun i ys H' => H' = H ∧ ys = ((tabD S d).take i).map V.int) ⟨rfl, rfl⟩ ?_ ?_⟩
  · rintro i ys H' hi ⟨rfl, rfl⟩
    have hi' : i < S := by omega
    refine ⟨_, rfl, _, rfl, _, _, rfl, d, _, hd, ok, rfl, small68 (by rw [List.length_map, List.length_take, tab_len68]; omega), rfl, ?_⟩
    rw [List.take_succ, tab_get68 hi', List.map_append, Int.zero_add]; rfl
  · rintro ys H' ⟨rfl, rfl⟩ l hl
    have e : (tabD S d).take ((S : Int)).toNat = tabD S d := by rw [Int.toNat_natCast]; exact List.take_of_length_le (by rw [tab_len68]; exact Nat.le_refl S)
    rw [e]
    refine ⟨l, _, rfl, .inl ⟨SqL.of upd_same, fun r hr' => q _ _ ((Grow.new hl _).trans (Grow.new hr' _)) ⟨r, rfl, SqT.of upd_same⟩⟩⟩
theorem sc_then : FnScope ["one", "other"] ["one", "other"] (defScope (top 29)) := ⟨rfl, rfl, rfl, by decide +kernel, rfl, by decide +kernel, by decide +kernel⟩
set_option maxHeartbeats 0 in
theorem ok_then {n : Nat} {f : Addr} {fd : FuncData} (F : Fun K "then" "then" (top 29) f fd) (B : Blt mg) (c_joined : Callee P w K mg base n "joined" ["one", "other"] (sp_joined K)) (c_need_deed : Callee P w K mg base n "need_deed" ["thing"] (sp_need_deed K))    :
    FnOk P w K mg base CX0 (n + 1) f fd ["one", "other"] (sp_then K) := by
  refine F.ok sc_then sp2_len (fun cdv A outer s H vs Q E hr h => ?_)
  obtain ⟨x, y, rfl, d, e, hd, he, okd, oke, q⟩ := h
  refine ⟨_, (pss_cons (ps_expr (pe_callC c_need_deed hr rfl (pa_cons (pv 0) pa_nil))) (pss_cons (ps_expr (pe_callC c_need_deed hr rfl (pa_cons (pv 1) pa_nil))) (pss_one (ps_ret (pe_callC c_joined hr rfl (pa_cons (pv 0) (pa_cons (pv 1) pa_nil))))))), ?_⟩
  exact ⟨_, rfl, _, rfl, d, hd, okd, _, rfl, _, rfl, e, he, oke, _, rfl, _, rfl, _, _, rfl, d, e, hd, he, q⟩
theorem sc_words : FnScope ["deeds"] ["deeds"] (defScope (top 19)) := ⟨rfl, rfl, rfl, by decide +kernel, rfl, by decide +kernel, by decide +kernel⟩
set_option maxHeartbeats 0 in
theorem ok_words {n : Nat} {f : Addr} {fd : FuncData} (F : Fun K "words" "words" (top 19) f fd) (B : Blt mg) (c_grown : Callee P w K mg base n "grown" ["deeds"] (sp_grownF K))    :
    FnOk P w K mg base CX0 (n + 1) f fd ["deeds"] (sp_words69 K) := by
  refine F.ok sc_words sp1_len (fun cdv A outer s H vs Q E hr h => ?_)
  obtain ⟨x, rfl, ms, S, hMk, q⟩ := h
  refine ⟨_, (pss_one (ps_ret (pe_tupVals hr rfl B.tuple (pe_callC c_grown hr rfl (pa_cons (pv 0) pa_nil))))), ?_⟩
  refine ⟨_, rfl, _, rfl, ms, S, hMk, fun y f H1 g1 hW hL => ?_⟩
  obtain ⟨l, kvs, rfl, hl, hk⟩ := hW
  refine ⟨l, kvs, rfl, hl, fun t ht => ?_⟩
  have gt := Grow.new (m := []) ht (.tup (kvs.map (·.2)))
  exact q _ f _ (g1.trans gt) ⟨t, _, rfl, SqT.of upd_same, gt.boardsR hk.vals⟩ hL
theorem sc__law_made : FnScope ["_law_deeds", "_law_word", "_law_found", "_law_number"] ["_law_deeds", "_law_word"] (defScope (top 52)) := ⟨rfl, rfl, rfl, by decide +kernel, rfl, by decide +kernel, by decide +kernel⟩
set_option maxHeartbeats 0 in
theorem ok__law_made {n : Nat} {f : Addr} {fd : FuncData} (F : Fun K "_law_made" "_law_made" (top 52) f fd) (B : Blt mg) (c_then : Callee P w K mg base n "then" ["one", "other"] (sp_then K))    :
    FnOk P w K mg base CX0 (n + 1) f fd ["_law_deeds", "_law_word"] (sp_made68 K) := by
  refine F.ok sc__law_made sp2_len (fun cdv A outer s H vs Q E hr h => ?_)
  obtain ⟨x, y, rfl, l, xs, ds, ws, rfl, hl, al, ok, hw, wr, q⟩ := h
  refine ⟨_, (pss_cons (ps_set (i := 2) sc__law_made.nd rfl (Or.inl rfl) (pe_tup (pa_cons pe_int (pa_cons pe_non (pa_cons pe_non pa_nil))))) (pss_cons (ps_for PassesOwn.never rfl (pi_tup (pv 1)) (pg_name (i := 3) sc__law_made.nd rfl (Or.inl rfl)) (pss_one (ps_set (i := 2) sc__law_made.nd rfl (Or.inl rfl) (pe_callC c_then hr rfl (pa_cons (pv 2) (pa_cons (pe_ix ix_list (pv 0) (pv 3) (fun _ _ => rfl)) pa_nil)))))) (pss_one (ps_ret (pv 2))))), ?_⟩
  obtain ⟨rw', rfl, hrw⟩ := hw
  refine c_asg (fun v H' => DeedAt K H' v look ∧ Grow [] H H') (fun Kk hk => ⟨szl rfl, fun t ht => hk _ _ ⟨⟨t, rfl, SqT.of upd_same⟩, Grow.new ht _⟩⟩) ?_
  rintro v0 H1 ⟨hv1, g1⟩
  have mk_ok : ∀ (w : List Int) (x : Deed), (∀ n ∈ w, 0 ≤ n ∧ n < (ds.length : Int)) → x.Ok → (w.foldl (fun acc n => joinD acc (ds.getD n.toNat look)) x).Ok := by
    intro w
    induction w with
    | nil => intro x _ h; exact h
    | cons n w ih =>
      intro x hn hx
      have h := hn n (List.mem_cons_self ..)
      have hl : n.toNat < ds.length := by omega
      have e : ds.getD n.toNat look = ds[n.toNat] := by rw [List.getD_eq_getElem?_getD, List.getElem?_eq_getElem hl]; rfl
      rw [List.foldl_cons, e]
      exact ih _ (fun m hm => hn m (List.mem_cons_of_mem _ hm)) (joinD_ok hx (ok _ (List.getElem_mem hl)))
  refine ⟨_, rfl, rw', rfl, ⟨_, g1.sqT hrw⟩, for_tup (xs := ws.map V.int) (fun i σ H' => ∃ (v : V) (e3 : Option V), σ = [some (.ref l), some (.ref rw'), some v, e3] ∧ Grow [] H H' ∧ DeedAt K H' v (madeW ds (ws.take i))) ⟨v0, _, rfl, g1, hv1⟩ (fun i σ H' _ ⟨_, _, _, g, _⟩ => g.sqT hrw) ?_ ?_⟩
  · rintro i x σ H2 hx ⟨v, e3, rfl, g2, hv2⟩
    rw [List.getElem?_map] at hx
    obtain ⟨n, hn, rfl⟩ := Option.map_eq_some_iff.mp hx
    have hnr := wr n (List.mem_of_getElem? hn)
    have hnl : n.toNat < ds.length := by omega
    obtain ⟨y, hy, hyD⟩ := al.okD68 (α := Unit) hnl
    have okn : (ds.getD n.toNat look).Ok := by rw [List.getD_eq_getElem?_getD, List.getElem?_eq_getElem hnl]; exact ok _ (List.getElem_mem hnl)
    have ix : atI xs n = some y := by
      have := atI_nat68 hy
      rw [Int.toNat_of_nonneg hnr.1] at this; exact this
    refine ⟨_, rfl, _, rfl, _, rfl, l, xs, n, y, rfl, rfl, SqL.of (g2.keep _ _ (by simp) hl), ix, _, _, rfl, _, _, hv2, g2.deed hyD, mk_ok _ look (fun m hm => wr m (List.mem_of_mem_take hm)) (fun _ _ z => nomatch z), okn, fun t ht => ⟨.ref t, _, rfl, g2.trans (Grow.new ht _), ?_⟩⟩
    rw [List.take_succ, hn]
    unfold madeW
    rw [List.foldl_append]
    exact ⟨t, rfl, SqT.of upd_same⟩
  · rintro σ H2 ⟨v, e3, rfl, g2, hv2⟩
    rw [List.length_map, List.take_length] at hv2
    exact ⟨_, rfl, q _ _ g2 hv2⟩
theorem sc__law_deed : FnScope ["_law_store_here", "_law_states", "_law_choice", "_law_add", "_law_low", "_law_high"] ["_law_store_here", "_law_states"] (defScope (top 50)) := ⟨rfl, rfl, rfl, by decide +kernel, rfl, by decide +kernel, by decide +kernel⟩
set_option maxHeartbeats 0 in
theorem ok__law_deed {n : Nat} {f : Addr} {fd : FuncData} (F : Fun K "_law_deed" "_law_deed" (top 50) f fd) (B : Blt mg) (c__law_draw : Callee P w K mg base n "_law_draw" ["_law_store_here", "_law_many"] (sp_draw K))    :
    FnOk P w K mg base CX0 (n + 1) f fd ["_law_store_here", "_law_states"] (sp_deed68 K) := by
  refine F.ok sc__law_deed sp2_len (fun cdv A outer s H vs Q E hr h => ?_)
  obtain ⟨x, y, rfl, a, S, rfl, rfl, s1, s5, pp, q⟩ := h
  refine ⟨_, (pss_cons (ps_set (i := 2) sc__law_deed.nd rfl (Or.inl rfl) (pe_callC c__law_draw hr rfl (pa_cons (pv 0) (pa_cons pe_int pa_nil)))) (pss_cons (ps_set (i := 3) sc__law_deed.nd rfl (Or.inl rfl) (pe_op op_sub (pe_callC c__law_draw hr rfl (pa_cons (pv 0) (pa_cons pe_int pa_nil))) pe_int)) (pss_cons (ps_set (i := 4) sc__law_deed.nd rfl (Or.inl rfl) (pe_callC c__law_draw hr rfl (pa_cons (pv 0) (pa_cons (pv 1) pa_nil)))) (pss_cons (ps_set (i := 5) sc__law_deed.nd rfl (Or.inl rfl) (pe_op op_add (pv 4) (pe_callC c__law_draw hr rfl (pa_cons (pv 0) (pa_cons (pe_op op_sub (pv 1) (pv 4)) pa_nil))))) (pss_cons (ps_if (PW.pt (pw_or (pt_cmpR op_eq (pv 2) pe_int (nomark _)) (pw_or1 (PW.pt (pw_and (pt_cmpR op_eq (pv 4) (pv 5) (nomark _)) (pw_and1 (pt_cmpR op_eq (pv 2) pe_int (nomark _)))))))) (pss_one (ps_ret (pe_tup (pa_cons pe_int (pa_cons (pv 4) (pa_cons (pv 4) pa_nil)))))) pss_nil) (pss_cons (ps_if (pt_cmpR op_eq (pv 2) pe_int (nomark _)) (pss_one (ps_ret (pe_tup (pa_cons (pv 3) (pa_cons (pv 4) (pa_cons (pv 5) pa_nil)))))) pss_nil) (pss_cons (ps_if (pt_cmpR op_eq (pv 1) pe_int (nomark _)) (pss_one (ps_ret (pe_tup (pa_cons pe_int (pa_cons pe_int (pa_cons pe_int pa_nil)))))) pss_nil) (pss_one (ps_ret (pe_tup (pa_cons (pv 3) (pa_cons pe_int (pa_cons (pe_op op_sub (pv 1) pe_int) pa_nil))))))))))))), ?_⟩
  refine c_asg (fun v H' => ∃ c : Int, v = .int c ∧ Grow [a] H H' ∧ Pot H' a) (fun Kk hk => ⟨_, rfl, _, _, rfl, a, 4, rfl, rfl, pp, by decide, by decide, fun t H' t0 t1 g pp' => hk _ _ ⟨t, rfl, g, pp'⟩⟩) ?_
  rintro _ H1 ⟨c, rfl, g1, pp1⟩
  refine c_asg (fun v H' => ∃ c : Int, v = .int c ∧ Grow [a] H1 H' ∧ Pot H' a) (fun Kk hk => ⟨_, rfl, _, _, rfl, a, 11, rfl, rfl, pp1, by decide, by decide, fun t H' t0 t1 g pp' => ⟨_, _, rfl, rfl, hk _ _ ⟨_, rfl, g, pp'⟩⟩⟩) ?_
  rintro _ H2 ⟨ad, rfl, g2, pp2⟩
  refine c_asg (fun v H' => ∃ c : Int, v = .int c ∧ 0 ≤ c ∧ c < S ∧ Grow [a] H2 H' ∧ Pot H' a) (fun Kk hk => ⟨_, rfl, _, rfl, _, _, rfl, a, S, rfl, rfl, pp2, by omega, by omega, fun t H' t0 t1 g pp' => hk _ _ ⟨_, rfl, t0, t1, g, pp'⟩⟩) ?_
  rintro _ H3 ⟨lo, rfl, l0, l1, g3, pp3⟩
  refine c_asg (fun v H' => ∃ c : Int, v = .int c ∧ lo ≤ c ∧ c < S ∧ Grow [a] H3 H' ∧ Pot H' a) (fun Kk hk => ⟨_, rfl, _, rfl, _, rfl, _, rfl, _, _, rfl, rfl, _, _, rfl, a, _, rfl, rfl, pp3, by omega, by omega, fun t H' t0 t1 g pp' => ⟨_, _, rfl, rfl, hk _ _ ⟨_, rfl, by show lo ≤ lo + t; omega, by show lo + t < _; omega, g, pp'⟩⟩⟩) ?_
  rintro _ H4 ⟨hi, rfl, h0, h1, g4, pp4⟩
  have G4 : Grow [a] H H4 := g1.trans (g2.trans (g3.trans g4))
  have fin : ∀ (d : Deed) t, H4 t = none → Kp68 S d → Q (.ref t) (upd H4 t (.tup d.vs)) := fun d t ht kp => q d _ _ (G4.trans (Grow.new ht _)) (pp4.new ht _) ⟨t, rfl, SqT.of upd_same⟩ kp
  refine c_test (fun b H' => H' = H4 ∧ (b = false → ¬ (lo = hi ∧ c = 2))) (fun Kk hk => ⟨_, rfl, rfl, _, rfl, ?_⟩) ?_
  · by_cases c3 : c = 3
    · exact iteT' (decide_eq_true (congrArg V.int c3)) (hk _ _ ⟨rfl, fun z => nomatch z⟩)
    · refine iteF' (decide_eq_false fun z => c3 (V.int.inj z)) ⟨_, rfl, _, rfl, rfl, _, rfl, ?_⟩
      by_cases e : lo = hi
      · refine iteT' (decide_eq_true (congrArg V.int e)) ⟨_, rfl, rfl, _, rfl, hk _ _ ⟨rfl, fun z w => ?_⟩⟩
        rw [decide_eq_true (congrArg V.int w.2)] at z; cases z
      · exact iteF' (decide_eq_false fun z => e (V.int.inj z)) (hk _ _ ⟨rfl, fun _ w => e w.1⟩)
  rintro b _ ⟨rfl, hb⟩
  cases b with
  | true => exact iteT ⟨_, rfl, _, rfl, szl rfl, fun t ht => fin ⟨0, some lo, some lo⟩ t ht (kp_lh68 l0 (.inr ⟨rfl, rfl⟩) l1)⟩
  | false =>
    refine iteF (c_next ?_)
    refine ⟨_, rfl, rfl, _, rfl, ?_⟩
    by_cases c2 : c = 2
    · have n := hb rfl
      exact iteT' (decide_eq_true (congrArg V.int c2)) ⟨_, rfl, _, rfl, _, rfl, szl rfl, fun t ht => fin ⟨ad, some lo, some hi⟩ t ht (kp_lh68 l0 (.inl (by have : lo ≠ hi := fun w => n ⟨w, c2⟩; omega)) h1)⟩
    · refine iteF' (decide_eq_false fun z => c2 (V.int.inj z)) (c_next ?_)
      refine ⟨_, rfl, rfl, _, rfl, ?_⟩
      by_cases c1 : (S : Int) = 1
      · exact iteT' (decide_eq_true (congrArg V.int c1)) ⟨szl rfl, fun t ht => fin ⟨0, some 0, some 0⟩ t ht (kp_lh68 (Int.le_refl 0) (.inr ⟨rfl, rfl⟩) (by omega))⟩
      · exact iteF' (decide_eq_false fun z => c1 (V.int.inj z)) (c_next ⟨_, rfl, _, rfl, _, _, rfl, rfl, szl rfl, fun t ht => fin ⟨ad, some 0, some ((S : Int) - 1)⟩ t ht (kp_lh68 (Int.le_refl 0) (.inl (by omega)) (by omega))⟩)
theorem sc__law_right : FnScope ["_law_store_here", "_law_many", "_law_states", "_law_deeds", "_law_makers", "_law_some", "_law_wholes", "_law_one", "_law_row", "_law_numbers", "_law_tree_here", "_law_start", "_law_found"] ["_law_store_here"] (defScope (top 53)) := ⟨rfl, rfl, rfl, by decide +kernel, rfl, by decide +kernel, by decide +kernel⟩
set_option maxHeartbeats 0 in
theorem ok__law_right {n : Nat} {f : Addr} {fd : FuncData} (F : Fun K "_law_right" "_law_right" (top 53) f fd) (B : Blt mg) (c_shared_out : Callee P w K mg base n "shared_out" ["deeds", "tree", "value"] (sp_shared_out K)) (c_shared_by : Callee P w K mg base n "shared_by" ["deeds", "table", "numbers", "tree", "state"] (sp_shared_by K)) (c_own_table : Callee P w K mg base n "own_table" ["deeds"] (sp_ownP K)) (c__law_draw : Callee P w K mg base n "_law_draw" ["_law_store_here", "_law_many"] (sp_draw K)) (c__law_tree : Callee P w K mg base n "_law_tree" ["_law_store_here", "_law_first", "_law_many"] (sp_tree3 40 K)) (c__law_by_table : Callee P w K mg base n "_law_by_table" ["_law_deed_here", "_law_states"] (sp_byt68 K)) (c_then : Callee P w K mg base n "then" ["one", "other"] (sp_then K)) (c_words : Callee P w K mg base n "words" ["deeds"] (sp_words69 K)) (c__law_made : Callee P w K mg base n "_law_made" ["_law_deeds", "_law_word"] (sp_made68 K)) (c_family : Callee P w K mg base n "family" ["deeds"] (sp_famP K)) (c__law_deed : Callee P w K mg base n "_law_deed" ["_law_store_here", "_law_states"] (sp_deed68 K)) (g_zip : mg "zip" = none)   :
    FnOk P w K mg base CX0 (n + 1) f fd ["_law_store_here"] (sp_right22 K) := by
  refine F.ok sc__law_right sp1_len (fun cdv A outer s H vs Q E hr h => ?_)
  obtain ⟨x, rfl, p, rfl, pp, q⟩ := h
  refine ⟨_, (pss_cons (ps_set (i := 1) sc__law_right.nd rfl (Or.inl rfl) (pe_op op_add pe_int (pe_callC c__law_draw hr rfl (pa_cons (pv 0) (pa_cons pe_int pa_nil))))) (pss_cons (ps_set (i := 2) sc__law_right.nd rfl (Or.inr rfl) (pe_op op_add pe_int (pe_callC c__law_draw hr rfl (pa_cons (pv 0) (pa_cons pe_int pa_nil))))) (pss_cons (ps_set (i := 3) sc__law_right.nd rfl (Or.inr rfl) (pe_compT (CSc.of (N' := ["_law_k", "_law_store_here", "_law_states"]) (sub := [none, some 0, some 2]) (defScope (top 53)) ["_law_store_here", "_law_many", "_law_states", "_law_deeds", "_law_makers", "_law_some", "_law_wholes", "_law_one", "_law_row", "_law_numbers", "_law_tree_here", "_law_start", "_law_found"] rfl rfl (by decide +kernel) rfl) rfl (pi_range1 rfl B.range (pa_cons (pe_op op_add pe_int (pe_callC c__law_draw hr rfl (pa_cons (pv 0) (pa_cons pe_int pa_nil)))) pa_nil)) (fun _ _ _ _ _ _ => pg_name (i := 0) (show (["_law_k", "_law_store_here", "_law_states"] : List Str).Nodup by decide +kernel) rfl (Or.inl rfl)) (fun _ _ _ _ _ _ => pifs_nil) (fun _ _ _ _ _ _ => (pe_callC c__law_deed hr rfl (pa_cons (pv 1) (pa_cons (pv 2) pa_nil)))))) (pss_cons (ps_set (i := 4) sc__law_right.nd rfl (Or.inl rfl) (pe_callTy call_tuple_of rfl B.tuple b_tuple (pa_cons (pe_compT (CSc.of (N' := ["_law_deed_here", "_law_states"]) (sub := [none, some 2]) (defScope (top 53)) ["_law_store_here", "_law_many", "_law_states", "_law_deeds", "_law_makers", "_law_some", "_law_wholes", "_law_one", "_law_row", "_law_numbers", "_law_tree_here", "_law_start", "_law_found"] rfl rfl (by decide +kernel) rfl) rfl (pi_list (pv 3)) (fun _ _ _ _ _ _ => pg_name (i := 0) (show (["_law_deed_here", "_law_states"] : List Str).Nodup by decide +kernel) rfl (Or.inl rfl)) (fun _ _ _ _ _ _ => pifs_nil) (fun _ _ _ _ _ _ => (pe_callC c__law_by_table hr rfl (pa_cons (pv 0) (pa_cons (pv 1) pa_nil))))) pa_nil))) (pss_cons (ps_set (i := 5) sc__law_right.nd rfl (Or.inr rfl) (pe_callC c_family hr rfl (pa_cons (pv 4) pa_nil))) (pss_cons (ps_set (i := 6) sc__law_right.nd rfl (Or.inr rfl) (pe_compT (CSc.of (N' := ["_law_word", "_law_deeds"]) (sub := [none, some 3]) (defScope (top 53)) ["_law_store_here", "_law_many", "_law_states", "_law_deeds", "_law_makers", "_law_some", "_law_wholes", "_law_one", "_law_row", "_law_numbers", "_law_tree_here", "_law_start", "_law_found"] rfl rfl (by decide +kernel) rfl) rfl (pi_tup (pe_callC c_words hr rfl (pa_cons (pv 4) pa_nil))) (fun _ _ _ _ _ _ => pg_name (i := 0) (show (["_law_word", "_law_deeds"] : List Str).Nodup by decide +kernel) rfl (Or.inl rfl)) (fun _ _ _ _ _ _ => pifs_nil) (fun _ _ _ _ _ _ => (pe_callC c__law_made hr rfl (pa_cons (pv 1) (pa_cons (pv 0) pa_nil)))))) (pss_cons (ps_if (PW.pt (pw_or (pt_cmpR op_ne (pe_callB call_len_seq rfl B.len b_len (pa_cons (pv 6) pa_nil)) (pe_callB call_len_seq rfl B.len b_len (pa_cons (pv 5) pa_nil)) (nomark _)) (pw_or1 (pt_cmpR (op_neD (K := K) rfl hr) (pe_compT (CSc.of (N' := ["_law_whole", "_law_states"]) (sub := [none, some 2]) (defScope (top 53)) ["_law_store_here", "_law_many", "_law_states", "_law_deeds", "_law_makers", "_law_some", "_law_wholes", "_law_one", "_law_row", "_law_numbers", "_law_tree_here", "_law_start", "_law_found"] rfl rfl (by decide +kernel) rfl) rfl (pi_list (pv 6)) (fun _ _ _ _ _ _ => pg_name (i := 0) (show (["_law_whole", "_law_states"] : List Str).Nodup by decide +kernel) rfl (Or.inl rfl)) (fun _ _ _ _ _ _ => pifs_nil) (fun _ _ _ _ _ _ => (pe_callC c__law_by_table hr rfl (pa_cons (pv 0) (pa_cons (pv 1) pa_nil))))) (pe_callTy call_list_of rfl B.list b_list (pa_cons (pv 5) pa_nil)) (nomark _))))) (pss_one (ps_ret pe_bl)) pss_nil) (pss_cons (ps_for PassesOwn.never rfl (pi_zip (K := K) rfl rfl g_zip (pa_cons (pv 6) (pa_cons (pe_callC c_own_table hr rfl (pa_cons (pv 4) pa_nil)) pa_nil))) (pg_tup rfl (pgs_cons (pg_name (i := 7) sc__law_right.nd rfl (Or.inr rfl)) (pgs_cons (pg_name (i := 8) sc__law_right.nd rfl (Or.inl rfl)) pgs_nil))) (pss_one (ps_if (pt_cmpR (op_neD (K := K) rfl hr) (pe_compT (CSc.of (N' := ["_law_other", "_law_states", "_law_one"]) (sub := [none, some 2, some 7]) (defScope (top 53)) ["_law_store_here", "_law_many", "_law_states", "_law_deeds", "_law_makers", "_law_some", "_law_wholes", "_law_one", "_law_row", "_law_numbers", "_law_tree_here", "_law_start", "_law_found"] rfl rfl (by decide +kernel) rfl) rfl (pi_list (pv 6)) (fun _ _ _ _ _ _ => pg_name (i := 0) (show (["_law_other", "_law_states", "_law_one"] : List Str).Nodup by decide +kernel) rfl (Or.inl rfl)) (fun _ _ _ _ _ _ => pifs_nil) (fun _ _ _ _ _ _ => (pe_callC c__law_by_table hr rfl (pa_cons (pe_callC c_then hr rfl (pa_cons (pv 2) (pa_cons (pv 0) pa_nil))) (pa_cons (pv 1) pa_nil))))) (pe_compT (CSc.of (N' := ["_law_number", "_law_some"]) (sub := [none, some 5]) (defScope (top 53)) ["_law_store_here", "_law_many", "_law_states", "_law_deeds", "_law_makers", "_law_some", "_law_wholes", "_law_one", "_law_row", "_law_numbers", "_law_tree_here", "_law_start", "_law_found"] rfl rfl (by decide +kernel) rfl) rfl (pi_tup (pv 8)) (fun _ _ _ _ _ _ => pg_name (i := 0) (show (["_law_number", "_law_some"] : List Str).Nodup by decide +kernel) rfl (Or.inl rfl)) (fun _ _ _ _ _ _ => pifs_nil) (fun _ _ _ _ _ _ => (pe_ix (ix_tupK (K := K) rfl) (pv 1) (pv 0) (fun _ _ => rfl)))) (nomark _)) (pss_one (ps_ret pe_bl)) pss_nil))) (pss_cons (ps_set (i := 9) sc__law_right.nd rfl (Or.inl rfl) (pe_callTy call_tuple_of rfl B.tuple b_tuple (pa_cons (pe_compT (CSc.of (N' := ["_law_k", "_law_store_here", "_law_some"]) (sub := [none, some 0, some 5]) (defScope (top 53)) ["_law_store_here", "_law_many", "_law_states", "_law_deeds", "_law_makers", "_law_some", "_law_wholes", "_law_one", "_law_row", "_law_numbers", "_law_tree_here", "_law_start", "_law_found"] rfl rfl (by decide +kernel) rfl) rfl (pi_range1 rfl B.range (pa_cons (pv 1) pa_nil)) (fun _ _ _ _ _ _ => pg_name (i := 0) (show (["_law_k", "_law_store_here", "_law_some"] : List Str).Nodup by decide +kernel) rfl (Or.inl rfl)) (fun _ _ _ _ _ _ => pifs_nil) (fun _ _ _ _ _ _ => (pe_callC c__law_draw hr rfl (pa_cons (pv 1) (pa_cons (pe_callB (call_lenK (K := K) rfl) rfl B.len b_len (pa_cons (pv 2) pa_nil)) pa_nil))))) pa_nil))) (pss_cons (ps_set (i := 10) sc__law_right.nd rfl (Or.inl rfl) (pe_callC c__law_tree hr rfl (pa_cons (pv 0) (pa_cons pe_int (pa_cons (pv 1) pa_nil))))) (pss_cons (ps_set (i := 11) sc__law_right.nd rfl (Or.inl rfl) (pe_callC c__law_draw hr rfl (pa_cons (pv 0) (pa_cons (pv 2) pa_nil)))) (pss_cons (ps_set (i := 12) sc__law_right.nd rfl (Or.inl rfl) (pe_callC c_shared_by hr rfl (pa_cons (pv 5) (pa_cons (pe_callC c_own_table hr rfl (pa_cons (pv 4) pa_nil)) (pa_cons (pv 9) (pa_cons (pv 10) (pa_cons (pv 11) pa_nil))))))) (pss_one (ps_ret (pe_cmpR (op_eqD (K := K) rfl hr) (pv 12) (pe_callC c_shared_out hr rfl (pa_cons (pe_callTy call_tuple_of rfl B.tuple b_tuple (pa_cons (pe_compT (CSc.of (N' := ["_law_number", "_law_wholes"]) (sub := [none, some 6]) (defScope (top 53)) ["_law_store_here", "_law_many", "_law_states", "_law_deeds", "_law_makers", "_law_some", "_law_wholes", "_law_one", "_law_row", "_law_numbers", "_law_tree_here", "_law_start", "_law_found"] rfl rfl (by decide +kernel) rfl) rfl (pi_tup (pv 9)) (fun _ _ _ _ _ _ => pg_name (i := 0) (show (["_law_number", "_law_wholes"] : List Str).Nodup by decide +kernel) rfl (Or.inl rfl)) (fun _ _ _ _ _ _ => pifs_nil) (fun _ _ _ _ _ _ => (pe_ix (ix_listK (K := K) rfl) (pv 1) (pv 0) (fun _ _ => rfl)))) pa_nil)) (pa_cons (pv 10) (pa_cons (pv 11) pa_nil)))) (nomark _)))))))))))))))), ?_⟩
  refine c_asg (fun v H' => ∃ m : Nat, v = .int m ∧ 1 ≤ m ∧ m ≤ 20 ∧ Grow [p] H H' ∧ Pot H' p) (fun Kk hk => ⟨_, rfl, _, _, rfl, p, 20, rfl, rfl, pp, by decide, by decide, fun t H' t0 t1 g pp' => ⟨_, _, rfl, rfl, hk _ _ ⟨(1 + t).toNat, congrArg V.int (by show 1 + t = _; omega), by omega, by omega, g, pp'⟩⟩⟩) ?_
  rintro _ H1 ⟨m, rfl, m1, m20, g1, pp1⟩
  refine c_asg (fun v H' => ∃ S : Nat, v = .int S ∧ 1 ≤ S ∧ S ≤ 5 ∧ Grow [p] H1 H' ∧ Pot H' p) (fun Kk hk => ⟨_, rfl, _, _, rfl, p, 5, rfl, rfl, pp1, by decide, by decide, fun t H' t0 t1 g pp' => ⟨_, _, rfl, rfl, hk _ _ ⟨(1 + t).toNat, congrArg V.int (by show 1 + t = _; omega), by omega, by omega, g, pp'⟩⟩⟩) ?_
  rintro _ H2 ⟨S, rfl, s1, s5, g2, pp2⟩
  refine c_asg (fun v H' => ∃ lD xs ds, v = .ref lD ∧ H' lD = some (.lst xs) ∧ lD ≠ p ∧ AllR (DeedAt K H') xs ds ∧ (∀ d ∈ ds, Kp68 S d) ∧ 1 ≤ ds.length ∧ ds.length ≤ 4 ∧ Grow [p] H2 H' ∧ Pot H' p) (fun Kk hk => ⟨_, rfl, _, _, rfl, p, 4, rfl, rfl, pp2, by decide, by decide, fun t H3 t0 t1 g3 pp3 => ⟨_, _, rfl, rfl, _, rfl, by show _ ≤ 1 + t; omega, by show 1 + t < _; omega, comp_rng (fun i ys H' => ∃ ds, AllR (DeedAt K H') ys ds ∧ ds.length = i ∧ (∀ d ∈ ds, Kp68 S d) ∧ Grow [p] H2 H' ∧ Pot H' p) ⟨[], trivial, rfl, (fun d hd => nomatch hd), g3, pp3⟩ ?_ ?_⟩⟩) ?_
  · rintro i ys H4 hi ⟨ds, al, dl, kd, g4, pp4⟩
    have hi' : i < 4 := by have : i < (1 + t).toNat := hi; omega
    refine ⟨_, rfl, _, rfl, _, _, rfl, p, S, rfl, rfl, s1, s5, pp4, fun d y H5 g5 pp5 hd kp => ⟨small68 (by rw [al.len]; omega), ds ++ [d], (g5.deedsR al).app (.one hd), by rw [List.length_append, dl]; rfl, fun e he => ?_, g4.trans g5, pp5⟩⟩
    rcases List.mem_append.mp he with z | z
    · exact kd e z
    · rw [List.mem_singleton.mp z]; exact kp
  · rintro ys H4 ⟨ds, al, dl, kd, g4, pp4⟩ l hl
    have e : (1 + t).toNat = ds.length := dl.symm
    have gl := Grow.new (m := []) hl (.lst ys)
    refine hk _ _ ⟨l, ys, ds, rfl, upd_same, fun z => ?_, gl.deedsR al, kd, by omega, by omega, g4.trans gl.wk, pp4.new hl _⟩
    obtain ⟨x0, x1, z1, _⟩ := pp4
    rw [z, z1] at hl; cases hl
  rintro _ H3 ⟨lD, xs, ds, rfl, hD3, nlp, al3, kd, d1, d4, g3, pp3⟩
  have G3 : Grow [p] H H3 := g1.trans (g2.trans g3)
  have okD : AllOk ds := fun d hd => (kd d hd).1
  have xl := al3.len
  refine c_asg (fun v H' => MksAt K H' v (ds.map (tabD S)) S ∧ Grow [] H3 H') (fun Kk hk => ⟨_, rfl, lD, rfl, ⟨_, SqL.of hD3⟩, comp_listG68 (xs := xs) (fun i ys σ' H' => (∃ e0, σ' = [e0, some (.int S)]) ∧ Grow [] H3 H' ∧ AllR (BoardAt K H') ys ((ds.take i).map (tabD S))) ⟨⟨_, rfl⟩, Grow.refl _ _, trivial⟩ (fun i ys σ' H' _ z => SqL.of (z.2.1.keep _ _ (by simp) hD3)) ?_ ?_⟩) ?_
  · rintro i x ys σ' H4 hx ⟨⟨e0, rfl⟩, g4, al4⟩
    obtain ⟨d, hd, hdA⟩ := al3.get hx
    refine ⟨_, rfl, _, rfl, _, _, rfl, d, S, g4.deed hdA, okD d (List.mem_of_getElem? hd), rfl, s5, fun y H5 g5 hb => ⟨small68 (by rw [al4.len, List.length_map, List.length_take]; omega), ⟨_, rfl⟩, g4.trans g5, ?_⟩⟩
    rw [List.take_succ, hd, List.map_append]
    exact (g5.boardsR al4).app (.one hb)
  · rintro ys σ' H4 ⟨_, g4, al4⟩ l hl
    rw [xl, List.take_length] at al4
    refine ⟨l, _, rfl, .inl ⟨SqL.of upd_same, fun r hr' => ?_⟩⟩
    have gg := (Grow.new (m := []) hl (.lst ys)).trans (Grow.new hr' (.tup ys))
    refine hk _ _ ⟨⟨⟨r, ys, rfl, SqT.of upd_same, gg.boardsR al4⟩, fun t ht => ?_, s1, s5, by rw [List.length_map]; exact d1, by rw [List.length_map]; exact d4, few_tab68 s5 kd⟩, g4.trans gg⟩
    obtain ⟨d, hd, rfl⟩ := List.mem_map.mp ht
    exact tab_dd68 (kd d hd)
  rintro ym H4 ⟨hMk, g4⟩
  refine c_asg (fun v H' => ∃ f, RowsB K H' v (keysF f) ∧ FamL (ds.map (tabD S)) S f ∧ Grow [] H4 H') (fun Kk hk => ⟨_, rfl, _, rfl, _, S, hMk, fun y f H' g hB hL => hk _ _ ⟨f, hB, hL, g⟩⟩) ?_
  rintro ys H5 ⟨f, hB5, hL, g5⟩
  have hMk5 := hMk.grow g5
  have hF := hL.fam hMk.ok hMk.few
  have f60 := hF.l60
  have f0 : 0 < (keysF f).length := (List.getElem?_eq_some_iff.mp hF.hd).1
  have fl : (keysF f).length = f.length := by unfold keysF; rw [List.length_map]
  have hW := wholes68 kd hL
  have hWt := wholes_tab68 kd hL
  have wm := hL.wm
  have hD5 := (g4.trans g5).keep _ _ (by simp) hD3
  have al5 := (g4.trans g5).deedsR al3
  refine c_asg (fun v H' => ∃ lW zs, v = .ref lW ∧ H' lW = some (.lst zs) ∧ lW ≠ p ∧ AllR (DeedAt K H') zs (f.map fun p => madeW ds p.2) ∧ Grow [] H5 H') (fun Kk hk => ⟨_, rfl, _, rfl, _, S, hMk5, fun yw f' Hw gw hRw hLw => ?_⟩) ?_
  · obtain rfl := FamR.eq hL hLw
    obtain ⟨rW, xw, rfl, hrw, alw⟩ := hRw
    have lw : xw.length = f.length := by rw [alw.len, List.length_map]
    refine ⟨rW, rfl, ⟨_, hrw⟩, comp_tupG68 (xs := xw) (fun i ys σ' H' => (∃ e0, σ' = [e0, some (.ref lD)]) ∧ Grow [] Hw H' ∧ AllR (DeedAt K H') ys ((f.take i).map fun p => madeW ds p.2)) ⟨⟨_, rfl⟩, Grow.refl _ _, trivial⟩ (fun i ys σ' H' _ z => z.2.1.sqT hrw) ?_ ?_⟩
    · rintro i x ys σ' H6 hx ⟨⟨e0, rfl⟩, g6, al6⟩
      obtain ⟨wd, hwd, hwA⟩ := alw.get hx
      rw [List.getElem?_map] at hwd
      obtain ⟨pr, hpr, rfl⟩ := Option.map_eq_some_iff.mp hwd
      have hm := wm pr (List.mem_of_getElem? hpr)
      have hi := (List.getElem?_eq_some_iff.mp hpr).1
      have gg := gw.trans g6
      refine ⟨_, rfl, _, rfl, _, _, rfl, lD, xs, ds, pr.2, rfl, gg.keep _ _ (by simp) hD5, gg.deedsR al5, okD, g6.board hwA, fun n hn => by have := hm.2 n hn; rw [List.length_map] at this; exact this, fun y H7 g7 hd7 => ⟨small68 (by rw [al6.len, List.length_map, List.length_take]; omega), ⟨_, rfl⟩, g6.trans g7, ?_⟩⟩
      rw [List.take_succ, hpr, List.map_append]
      exact (g7.deedsR al6).app (.one hd7)
    · rintro ys σ' H6 ⟨_, g6, al6⟩ l hl
      rw [lw, List.take_length] at al6
      have gl := Grow.new (m := []) hl (.lst ys)
      refine hk _ _ ⟨l, ys, rfl, upd_same, fun z => ?_, gl.deedsR al6, gw.trans (g6.trans gl)⟩
      have pp6 := (((pp3.grow g4).grow g5).grow gw).grow g6
      obtain ⟨x0, x1, z1, _⟩ := pp6
      rw [z, z1] at hl; cases hl
  rintro _ H6 ⟨lW, zs, rfl, hW6, nWp, alW6, g6⟩
  obtain ⟨W, hWd⟩ : ∃ W, W = f.map fun p => madeW ds p.2 := ⟨_, rfl⟩
  rw [← hWd] at hW hWt alW6
  have Wl : W.length = (keysF f).length := by rw [hWd, List.length_map, fl]
  have zl := alW6.len
  obtain ⟨rS, xS, rfl, hrS, alSk⟩ := id (hB5.grow g6)
  have alS : AllR (BoardAt K H6) xS (keysF f) := alSk.imp fun _ _ z => z.board
  have sl := alS.len
  have hMk6 := hMk5.grow g6
  have pp6 := ((pp3.grow g4).grow g5).grow g6
  have okW : ∀ n : Nat, n < (keysF f).length → (W.getD n look).Ok := fun n hn => (hW n hn).1.1
  have okWm : ∀ d ∈ W, d.Ok := fun d hd => by
    obtain ⟨n, hn, rfl⟩ := List.mem_iff_getElem.mp hd
    have := okW n (by omega)
    rw [List.getD_eq_getElem?_getD, List.getElem?_eq_getElem hn] at this; exact this
  refine c_test (fun c H' => c = false ∧ Grow [] H6 H') (fun Kk hk => ⟨_, rfl, lW, _, rfl, .inl (SqL.of hW6), _, rfl, rS, _, rfl, .inr hrS, rfl, _, rfl, iteF' ?_ ⟨_, rfl, lW, rfl, ⟨_, SqL.of hW6⟩, comp_listG68 (xs := zs) (fun i ys σ' H' => (∃ e0, σ' = [e0, some (.int S)]) ∧ Grow [] H6 H' ∧ AllR (BoardAt K H') ys ((W.take i).map (tabD S))) ⟨⟨_, rfl⟩, Grow.refl _ _, trivial⟩ (fun i ys σ' H' _ z => SqL.of (z.2.1.keep _ _ (by simp) hW6)) ?_ ?_⟩⟩) ?_
  · rw [zl, Wl, sl, decide_eq_true rfl]; rfl
  · rintro i x ys σ' H7 hx ⟨⟨e0, rfl⟩, g7, al7⟩
    obtain ⟨d, hd, hdA⟩ := alW6.get hx
    refine ⟨_, rfl, _, rfl, _, _, rfl, d, S, g7.deed hdA, okWm d (List.mem_of_getElem? hd), rfl, s5, fun y H8 g8 hb => ⟨small68 (by rw [al7.len, List.length_map, List.length_take]; omega), ⟨_, rfl⟩, g7.trans g8, ?_⟩⟩
    rw [List.take_succ, hd, List.map_append]
    exact (g8.boardsR al7).app (.one hb)
  · rintro ys σ' H7 ⟨_, g7, al7⟩ l hl
    rw [zl, List.take_length, hWt] at al7
    have gl := Grow.new (m := []) hl (.lst ys)
    refine ⟨_, rfl, rS, _, rfl, .inr ((g7.trans gl).sqT hrS), fun l2 hl2 => ?_⟩
    have gl2 := Grow.new (m := []) hl2 (.lst xS)
    exact ⟨.list ((keysF f).map rowD), .lst (SqL.of (gl2.keep _ _ (by simp) upd_same)) (dq_rowsA ((gl.trans gl2).boardsR al7)), .lst (SqL.of upd_same) (dq_rowsA ((g7.trans (gl.trans gl2)).boardsR alS)), ⟨l, rfl⟩, rowsL_dep, _, rfl, hk _ _ ⟨rfl, g7.trans (gl.trans gl2)⟩⟩
  rintro _ H7 ⟨rfl, g7⟩
  refine iteF (c_next ?_)
  have hMk7 := hMk6.grow g7
  have hW7 := g7.keep _ _ (by simp) hW6
  have alW7 := g7.deedsR alW6
  have hrS7 := g7.sqT hrS
  have alS7 := g7.boardsR alS
  have pp7 := pp6.grow g7
  refine ⟨_, rfl, _, rfl, _, rfl, _, S, hMk7, fun yo f' H8 g8 hLo hRo => ?_⟩
  obtain rfl := FamR.eq hL hLo
  obtain ⟨ro, xo, rfl, hro, alo⟩ := hRo
  have oT := ownT_tab hF
  have lo : xo.length = (keysF f).length := by rw [alo.len, oT.1]
  have hW8 := g8.keep _ _ (by simp) hW7
  have hrS8 := g8.sqT hrS7
  have alS8 := g8.boardsR alS7
  have alW8 := g8.deedsR alW7
  refine ⟨false, true, lW, ro, rfl, ⟨_, SqL.of hW8⟩, ⟨_, hro⟩, for_zip (xs := zs) (ys := xo) (fun i σ H' => ∃ (e7 e8 : Option V), σ = [some (.ref p), some (.int m), some (.int S), some (.ref lD), some ym, some (.ref rS), some (.ref lW), e7, e8, none, none, none, none] ∧ Grow [] H8 H') ⟨_, _, rfl, Grow.refl _ _⟩ (fun i σ H' ⟨_, _, _, g⟩ => ⟨SqL.of (g.keep _ _ (by simp) hW8), g.sqT hro⟩) ?_ ?_⟩
  · rintro i x y σ H9 T hx hy ⟨e7, e8, rfl, g9⟩ hT
    have gT := Grow.new (m := []) hT (.tup [x, y])
    obtain ⟨d, hd, hdA⟩ := alW8.get hx
    obtain ⟨row, hrow, rr, rfl, hrr⟩ := alo.get hy
    have hi : i < (keysF f).length := by rw [← lo]; exact (List.getElem?_eq_some_iff.mp hy).1
    have ed : W.getD i look = d := by rw [List.getD_eq_getElem?_getD, hd]; rfl
    have er : (ownT (keysF f)).getD i [] = row := by rw [List.getD_eq_getElem?_getD, hrow]; rfl
    have R68 := row68 hF hW Wl hi
    have rl := ownT_row68 hF hi
    rw [ed, er] at R68
    rw [er] at rl
    have okd := okWm d (List.mem_of_getElem? hd)
    have g10 := g9.trans gT
    have hTt := upd_same (H := H9) (a := T) (o := .tup [x, .ref rr])
    generalize upd H9 T (.tup [x, .ref rr]) = H10 at gT hTt g10 ⊢
    refine ⟨T, [x, .ref rr], rfl, SqT.of hTt, rfl, _, _, rfl, _, _, rfl, rfl, ?_⟩
    have hW10 := g10.keep _ _ (by simp) hW8
    have alW10 := g10.deedsR alW8
    refine ⟨_, rfl, lW, rfl, ⟨_, SqL.of hW10⟩, comp_listG68 (xs := zs) (fun j ys σ' H' => (∃ e0, σ' = [e0, some (.int S), some x]) ∧ Grow [] H10 H' ∧ AllR (BoardAt K H') ys ((W.take j).map fun w => tabD S (joinD d w))) ⟨⟨_, rfl⟩, Grow.refl _ _, trivial⟩ (fun i ys σ' H' _ z => SqL.of (z.2.1.keep _ _ (by simp) hW10)) ?_ ?_⟩
    · rintro j x2 ys σ' H11 hx2 ⟨⟨e0, rfl⟩, g11, al11⟩
      obtain ⟨d2, hd2, hdA2⟩ := alW10.get hx2
      have okd2 := okWm d2 (List.mem_of_getElem? hd2)
      refine ⟨_, rfl, _, rfl, _, _, rfl, d, d2, (g10.trans g11).deed hdA, g11.deed hdA2, okd, okd2, fun t ht => ⟨_, rfl, _, _, rfl, joinD d d2, S, ⟨t, rfl, SqT.of upd_same⟩, joinD_ok okd okd2, rfl, s5, fun y H12 g12 hb => ⟨small68 (by rw [al11.len, List.length_map, List.length_take]; omega), ⟨_, rfl⟩, g11.trans ((Grow.new ht _).trans g12), ?_⟩⟩⟩
      rw [List.take_succ, hd2, List.map_append]
      exact (g12.boardsR ((Grow.new (m := []) ht _).boardsR al11)).app (.one hb)
    · rintro ys σ' H11 ⟨_, g11, al11⟩ l hl
      rw [zl, List.take_length, R68] at al11
      have gl := Grow.new (m := []) hl (.lst ys)
      have G11 := g10.trans (g11.trans gl)
      have hrr11 := G11.sqT hrr
      have hrS11 := G11.sqT hrS8
      have alS11 := G11.boardsR alS8
      have al12 := gl.boardsR al11
      have hl12 := upd_same (H := H11) (a := l) (o := .lst ys)
      generalize upd H11 l (.lst ys) = H12 at gl G11 hrr11 hrS11 alS11 al12 hl12 ⊢
      refine ⟨_, rfl, rr, rfl, ⟨_, hrr11⟩, comp_tupG68 (xs := row.map V.int) (fun j ys σ' H' => (∃ e0, σ' = [e0, some (.ref rS)]) ∧ H' = H12 ∧ AllR (BoardAt K H') ys ((row.take j).map fun n => (keysF f).getD n.toNat [])) ⟨⟨_, rfl⟩, rfl, trivial⟩ (fun i ys σ' H' _ z => by rw [z.2.1]; exact hrr11) ?_ ?_⟩
      · rintro j x2 ys2 σ' H13 hx2 ⟨⟨e0, rfl⟩, rfl, al13⟩
        rw [List.getElem?_map] at hx2
        obtain ⟨n, hn, rfl⟩ := Option.map_eq_some_iff.mp hx2
        have hnr := rl.1 n (List.mem_of_getElem? hn)
        obtain ⟨b, hb, hbA⟩ := getRow' alS11 (i := n.toNat) (by omega)
        rw [Int.toNat_of_nonneg hnr.1] at hb
        refine ⟨_, rfl, _, rfl, rS, _, n, .ref b, rfl, rfl, hrS11, hb, small68 (by rw [al13.len, List.length_map, List.length_take]; omega), ⟨_, rfl⟩, rfl, ?_⟩
        rw [List.take_succ, hn, List.map_append]
        exact al13.app (.one ⟨b, rfl, hbA⟩)
      · rintro ys2 σ' H13 ⟨_, rfl, al13⟩ l2 hl2
        rw [List.length_map, List.take_length] at al13
        have gl2 := Grow.new (m := []) hl2 (.lst ys2)
        refine ⟨.list ((row.map fun n => (keysF f).getD n.toNat []).map rowD), .lst (SqL.of (gl2.keep _ _ (by simp) hl12)) (dq_rowsA (gl2.boardsR al12)), .lst (SqL.of upd_same) (dq_rowsA (gl2.boardsR al13)), ⟨l, rfl⟩, rowsL_dep, _, rfl, iteF ⟨_, _, rfl, g9.trans (gT.trans (g11.trans (gl.trans gl2)))⟩⟩
  · rintro σ H9 ⟨e7, e8, rfl, g9⟩
    have G9 := g8.trans g9
    have pp9 := pp7.grow G9
    have hrS9 := g9.sqT hrS8
    have alS9 := g9.boardsR alS8
    have hW9 := g9.keep _ _ (by simp) hW8
    have alW9 := g9.deedsR alW8
    have hMk9 := hMk7.grow G9
    have pt : ∀ {H' : Hp} {l : Addr}, Pot H' p → H' l = none → l ≠ p := fun pp hl z => by
      obtain ⟨x0, x1, z1, _⟩ := pp
      rw [z, z1] at hl; cases hl
    refine c_nx (c_asg (fun v H' => ∃ ns, BoardAt K H' v ns ∧ Rng (keysF f).length ns ∧ ns.length = m ∧ Grow [p] H9 H' ∧ Pot H' p) (fun Kk hk => ⟨_, rfl, _, rfl, by omega, by omega, comp_rng (fun i ys H' => ∃ ns : List Int, ys = ns.map V.int ∧ ns.length = i ∧ Rng (keysF f).length ns ∧ Grow [p] H9 H' ∧ Pot H' p) ⟨[], rfl, rfl, (fun n hn => nomatch hn), Grow.refl _ _, pp9⟩ ?_ ?_⟩) ?_)
    · rintro i ys H10 hi ⟨ns, rfl, nl, nr, g10, pp10⟩
      have hi' : i < m := by omega
      refine ⟨_, rfl, _, rfl, rS, _, rfl, .inr (g10.sqT hrS9), _, _, rfl, p, _, rfl, rfl, pp10, by omega, by omega, fun n H11 n0 n1 g11 pp11 => ⟨small68 (by rw [List.length_map]; omega), ns ++ [n], by rw [List.map_append]; rfl, by rw [List.length_append, nl]; rfl, fun v hv => ?_, g10.trans g11, pp11⟩⟩
      rcases List.mem_append.mp hv with z | z
      · exact nr v z
      · rw [List.mem_singleton.mp z]; rw [sl] at n1; exact ⟨n0, n1⟩
    · rintro ys H10 ⟨ns, rfl, nl, nr, g10, pp10⟩ l hl
      rw [Int.toNat_natCast] at nl
      have gl := Grow.new (m := []) hl (.lst (ns.map V.int))
      refine ⟨l, _, rfl, .inl ⟨SqL.of upd_same, fun r hr' => ?_⟩⟩
      have gg := gl.trans (Grow.new hr' (.tup (ns.map V.int)))
      exact hk _ _ ⟨ns, ⟨r, rfl, SqT.of upd_same⟩, nr, nl, g10.trans gg.wk, pp10.grow gg⟩
    rintro yn H10 ⟨ns, hn10, nr, nl, g10, pp10⟩
    refine c_asg (fun v H' => ∃ t, TreeAt K H' v t ∧ Ordd t 0 ∧ t.count = (m : Int) ∧ t.ht < 41 ∧ Grow [p] H10 H' ∧ Pot H' p) (fun Kk hk => ⟨_, rfl, _, rfl, _, _, _, rfl, p, 0, m, rfl, rfl, rfl, pp10, by decide, by omega, by omega, by omega, fun y t H' g pp' ht od ct hh _ => hk _ _ ⟨t, ht, od, ct, by rw [Int.toNat_natCast] at hh; omega, g, pp'⟩⟩) ?_
    rintro yt H11 ⟨t, ht11, od, ct, th, g11, pp11⟩
    refine c_asg (fun v H' => ∃ st : Int, v = .int st ∧ 0 ≤ st ∧ st < S ∧ Grow [p] H11 H' ∧ Pot H' p) (fun Kk hk => ⟨_, rfl, _, rfl, _, _, rfl, p, S, rfl, rfl, pp11, by omega, by omega, fun t H' t0 t1 g pp' => hk _ _ ⟨_, rfl, t0, t1, g, pp'⟩⟩) ?_
    rintro _ H12 ⟨st, rfl, st0, st1, g12, pp12⟩
    have G12 : Grow [p] H9 H12 := g10.trans (g11.trans g12)
    have hn12 := (g11.trans g12).board hn10
    have ht12 := g12.tree ht11
    have rsB : RowsAt K H12 (.ref rS) (keysF f) := ⟨rS, xS, rfl, G12.sqT hrS9, G12.boardsR alS9⟩
    have tn : t.count.toNat = ns.length := by rw [ct, nl]; exact Int.toNat_natCast m
    refine c_asg (fun v H' => BoardAt K H' v (shT (keysF f) (ownT (keysF f)) ns t st) ∧ Grow [] H12 H') (fun Kk hk => ⟨_, rfl, _, rfl, _, rfl, _, S, hMk9.grow G12, fun yo f' H13 g13 hL13 hR13 => ?_⟩) ?_
    · obtain rfl := FamR.eq hL hL13
      refine ⟨_, rfl, _, rfl, _, rfl, _, _, _, _, _, rfl, (keysF f).length, S, keysF f, ownT (keysF f), ns, t, st, g13.rows rsB, hR13, g13.board hn12, g13.tree ht12, ⟨oT, nr⟩, ⟨rfl, fun r hr' => hF.dd r hr'⟩, by omega, f60, s1, s5, od, by rw [ct, nl], by omega, th, rfl, st0, st1, fun y H14 g14 hb => hk _ _ ⟨hb, g13.trans g14⟩⟩
    rintro yf H13 ⟨hf13, g13⟩
    have sh := share65 hF nr st0 st1 (t := t) (f := 0) od (by rw [Nat.zero_add, tn]; exact Nat.le_refl _)
    rw [show (wholeN S (keysF f) ns 0).getD st.toNat 0 = st from idL_get st0 st1, tn, ← run68 hW nr st0 st1] at sh
    rw [sh] at hf13
    have hW13 := (G12.trans g13.wk).keep _ _ (by simpa using nWp) hW9
    have alW13 := (G12.trans g13.wk).deedsR alW9
    obtain ⟨rn, rfl, hrn⟩ := g13.board hn12
    refine ⟨_, rfl, _, rfl, rn, rfl, ⟨_, hrn⟩, comp_tupG68 (xs := ns.map V.int) (fun j ys σ' H' => (∃ e0, σ' = [e0, some (.ref lW)]) ∧ H' = H13 ∧ AllR (DeedAt K H') ys ((ns.take j).map fun n => W.getD n.toNat look)) ⟨⟨_, rfl⟩, rfl, trivial⟩ (fun i ys σ' H' _ z => by rw [z.2.1]; exact hrn) ?_ ?_⟩
    · rintro j x2 ys2 σ' H14 hx2 ⟨⟨e0, rfl⟩, rfl, al14⟩
      rw [List.getElem?_map] at hx2
      obtain ⟨n, hn, rfl⟩ := Option.map_eq_some_iff.mp hx2
      have hnr := nr n (List.mem_of_getElem? hn)
      have hj := (List.getElem?_eq_some_iff.mp hn).1
      obtain ⟨y, hy, hyD⟩ := alW13.okD68 (α := Unit) (i := n.toNat) (by omega)
      have ix : atI zs n = some y := by
        have := atI_nat68 hy
        rw [Int.toNat_of_nonneg hnr.1] at this; exact this
      refine ⟨_, rfl, _, rfl, lW, zs, n, y, rfl, rfl, SqL.of hW13, ix, small68 (by rw [al14.len, List.length_map, List.length_take]; omega), ⟨_, rfl⟩, rfl, ?_⟩
      rw [List.take_succ, hn, List.map_append]
      exact al14.app (.one hyD)
    · rintro ys2 σ' H14 ⟨_, rfl, al14⟩ l hl
      rw [List.length_map, List.take_length] at al14
      have gl := Grow.new (m := []) hl (.lst ys2)
      refine ⟨l, _, rfl, .inl ⟨SqL.of upd_same, fun r hr' => ?_⟩⟩
      have gg := gl.trans (Grow.new hr' (.tup ys2))
      refine ⟨_, rfl, _, rfl, _, _, _, rfl, (ns.map fun n => W.getD n.toNat look), t, st, ⟨r, ys2, rfl, SqT.of upd_same, gg.deedsR al14⟩, by rw [List.length_map]; omega, by rw [List.length_map]; omega, fun d hd => ?_, gg.tree (g13.tree ht12), od, by rw [List.length_map, ct, nl], th, rfl, fun y H15 g15 hb => ?_⟩
      · obtain ⟨n, hn, rfl⟩ := List.mem_map.mp hd
        have := nr n hn
        exact okW n.toNat (by omega)
      · refine ⟨intsD (runA (ns.map fun n => W.getD n.toNat look) st), ((gg.trans g15).board hf13).dat.dq, hb.dat.dq, ?_, ?_, ?_⟩
        · obtain ⟨a, e, _⟩ := hf13; exact ⟨a, e⟩
        · show PyData.depthAll _ + 1 ≤ 100
          rw [dep_ints]; decide
        · exact q _ (G3.trans ((g4.trans (g5.trans (g6.trans (g7.trans G9)))).wk.trans (G12.trans (g13.trans (gg.trans g15)).wk)))
theorem sc__law_store : FnScope ["_law_script", "_law_k", "_law_cell"] ["_law_script", "_law_k"] (defScope (top 47)) := ⟨rfl, rfl, rfl, by decide +kernel, rfl, by decide +kernel, by decide +kernel⟩
set_option maxHeartbeats 0 in
theorem ok__law_store {n : Nat} {f : Addr} {fd : FuncData} (F : Fun K "_law_store" "_law_store" (top 47) f fd) (B : Blt mg)     :
    FnOk P w K mg base CX0 (n + 1) f fd ["_law_script", "_law_k"] (sp_pot K) := by
  refine F.ok sc__law_store sp2_len (fun cdv A outer s H vs Q E hr h => ?_)
  obtain ⟨x, y, rfl, a, ns, k, rfl, rfl, hs, k0, k1, q⟩ := h
  refine ⟨_, (pss_cons (ps_set (i := 2) sc__law_store.nd rfl (Or.inl rfl) pe_int) (pss_cons (ps_if (pt_cmpR op_lt (pv 1) (pe_callB call_len_seq rfl B.len b_len (pa_cons (pv 0) pa_nil)) (nomark _)) (pss_one (ps_set (i := 2) sc__law_store.nd rfl (Or.inl rfl) (pe_callB call_abs rfl B.abs b_abs (pa_cons (pe_ix ix_list (pv 0) (pv 1) (fun _ _ => rfl)) pa_nil)))) pss_nil) (pss_one (ps_ret (pe_lst (pa_cons (pe_callB (call_max2 rfl) rfl B.max b_max (pa_cons pe_int (pa_cons (pe_op op_sub (pv 2) (pe_op op_pow pe_int pe_int)) pa_nil))) (pa_cons (pe_op op_mod (pe_op op_pow (pe_op op_add (pe_op op_add (pe_op op_mod (pv 2) pe_int) (pe_op op_mulG pe_int (pv 1))) pe_int) pe_int) pe_int) pa_nil))))))), ?_⟩
  have hs2 := hs.sq
  have hl : (ns.map V.int).length = ns.length := List.length_map ..
  refine ⟨_, rfl, _, rfl, a, _, rfl, .inl hs2, _, _, rfl, rfl, _, rfl, ?_⟩
  by_cases c : k < ((ns.map V.int).length : Int)
  · refine iteT' (decide_eq_true c) ?_
    have hj : k.toNat < ns.length := by omega
    refine ⟨_, rfl, _, rfl, a, _, _, V.int ns[k.toNat], rfl, rfl, hs2, ixGet (ixN_nat k0 (by omega)) (by rw [List.getElem?_map, List.getElem?_eq_getElem hj]; rfl), _, rfl, ?_⟩
    refine ⟨_, rfl, _, _, rfl, rfl, ⟨by decide, by decide, by decide⟩, _, _, rfl, rfl, _, _, rfl, ?_⟩
    refine ⟨_, rfl, _, _, rfl, rfl, (by show (0 : Int) < 2147483549; decide), _, rfl, _, _, rfl, rfl, mulOk ⟨by decide, by decide⟩ ⟨by omega, by omega⟩, _, _, rfl, rfl, _, _, rfl, rfl, _, _, rfl, rfl, ⟨by decide, by decide, ?_⟩, _, _, rfl, rfl, (by show (0 : Int) < 2147483629; decide), szl rfl, fun p hp => ?_⟩
    · have e0 : 0 ≤ (if ns[k.toNat] < 0 then -ns[k.toNat] else ns[k.toNat]) % 2147483549 := Int.emod_nonneg _ (by decide)
      have e1 : (if ns[k.toNat] < 0 then -ns[k.toNat] else ns[k.toNat]) % 2147483549 < 2147483549 := Int.emod_lt_of_pos _ (by decide)
      show ((if ns[k.toNat] < 0 then -ns[k.toNat] else ns[k.toNat]) % 2147483549 + 1009 * k + 3).natAbs < 2 ^ 64
      omega
    refine q p _ hp (Grow.new hp _) ⟨_, _, upd_same, ?_⟩
    show 0 ≤ (if ((if ns[k.toNat] < 0 then -ns[k.toNat] else ns[k.toNat]) - 10 ^ (18 : Int).toNat) > 0 then _ else _)
    split <;> omega
  · refine iteF' (decide_eq_false c) ?_
    refine ⟨_, rfl, _, _, rfl, rfl, ⟨by decide, by decide, by decide⟩, _, _, rfl, rfl, _, _, rfl, ?_⟩
    refine ⟨_, rfl, _, _, rfl, rfl, (by show (0 : Int) < 2147483549; decide), _, rfl, _, _, rfl, rfl, mulOk ⟨by decide, by decide⟩ ⟨by omega, by omega⟩, _, _, rfl, rfl, _, _, rfl, rfl, _, _, rfl, rfl, ⟨by decide, by decide, ?_⟩, _, _, rfl, rfl, (by show (0 : Int) < 2147483629; decide), szl rfl, fun p hp => ?_⟩
    · have e0 : 0 ≤ (0 : Int) % 2147483549 := Int.emod_nonneg _ (by decide)
      have e1 : (0 : Int) % 2147483549 < 2147483549 := Int.emod_lt_of_pos _ (by decide)
      show ((0 : Int) % 2147483549 + 1009 * k + 3).natAbs < 2 ^ 64
      omega
    refine q p _ hp (Grow.new hp _) ⟨_, _, upd_same, ?_⟩
    show 0 ≤ (if ((0 : Int) - 10 ^ (18 : Int).toNat) > 0 then _ else _)
    split <;> omega
theorem sc_law : FnScope ["_law_script", "_law_k"] ["_law_script"] (defScope (top 54)) := ⟨rfl, rfl, rfl, by decide +kernel, rfl, by decide +kernel, by decide +kernel⟩
set_option maxHeartbeats 0 in
theorem ok_law {n : Nat} {f : Addr} {fd : FuncData} (F : Fun K "law" "law" (top 54) f fd) (B : Blt mg) (c__law_right : Callee P w K mg base n "_law_right" ["_law_store_here"] (sp_right22 K)) (c__law_store : Callee P w K mg base n "_law_store" ["_law_script", "_law_k"] (sp_pot K))    :
    FnOk P w K mg base CX0 (n + 1) f fd ["_law_script"] (sp_law K) := by
  refine F.ok sc_law sp1_len (fun cdv A outer s H vs Q E hr h => ?_)
  obtain ⟨x, rfl, a, ns, rfl, hs, h63, q⟩ := h
  refine ⟨_, (pss_cons (ps_for PassesOwn.never rfl (pi_range1 rfl B.range (pa_cons (pe_callB (call_max2 rfl) rfl B.max b_max (pa_cons pe_int (pa_cons (pe_callB (call_min2 rfl) rfl B.min b_min (pa_cons pe_int (pa_cons (pe_callB call_len_seq rfl B.len b_len (pa_cons (pv 0) pa_nil)) pa_nil))) pa_nil))) pa_nil)) (pg_name (i := 1) sc_law.nd rfl (Or.inl rfl)) (pss_one (ps_if (pt_not (pt_val (pe_callC c__law_right hr rfl (pa_cons (pe_callC c__law_store hr rfl (pa_cons (pv 0) (pa_cons (pv 1) pa_nil))) pa_nil)))) (pss_one (ps_ret pe_bl)) pss_nil))) (pss_one (ps_ret pe_bl))), ?_⟩
  have hl : (ns.map V.int).length = ns.length := List.length_map ..
  refine ⟨_, rfl, a, _, rfl, .inl hs.sq, _, _, rfl, _, _, rfl, _, rfl, ?_, ?_, ?_⟩
  · split <;> split <;> omega
  · rw [hl]; split <;> split <;> omega
  refine for_range (fun i σ H' => ∃ e1, σ = [some (.ref a), e1] ∧ Grow [] H H') ⟨_, rfl, Grow.refl _ _⟩ ?_ ?_
  · rintro i σ H1 hi ⟨e1, rfl, g⟩
    have i63 : i < 1000 := by
      have hi' := hi
      revert hi'
      split <;> split <;> omega
    refine ⟨_, rfl, _, rfl, _, _, rfl, a, ns, _, rfl, rfl, g.scr hs, by omega, by omega, fun p H2 hp g2 pp => ?_⟩
    exact ⟨_, rfl, p, rfl, pp, fun H3 g3 => ⟨_, rfl, iteF ⟨_, rfl, g.trans (((g2.wk (m := [p])).trans g3).shrink hp)⟩⟩⟩
  · rintro σ H1 _
    exact q _
end
theorem my_len1 : ∀ {us : List Value}, us.length = 1 → ∃ x0, us = [x0]
  | [x0], _ => ⟨x0, rfl⟩
theorem my_len2 : ∀ {us : List Value}, us.length = 2 → ∃ x0, ∃ x1, us = [x0, x1]
  | [x0, x1], _ => ⟨x0, x1, rfl⟩
theorem my_len3 : ∀ {us : List Value}, us.length = 3 → ∃ x0, ∃ x1, ∃ x2, us = [x0, x1, x2]
  | [x0, x1, x2], _ => ⟨x0, x1, x2, rfl⟩
theorem my_len4 : ∀ {us : List Value}, us.length = 4 → ∃ x0, ∃ x1, ∃ x2, ∃ x3, us = [x0, x1, x2, x3]
  | [x0, x1, x2, x3], _ => ⟨x0, x1, x2, x3, rfl⟩
theorem my_len5 : ∀ {us : List Value}, us.length = 5 → ∃ x0, ∃ x1, ∃ x2, ∃ x3, ∃ x4, us = [x0, x1, x2, x3, x4]
  | [x0, x1, x2, x3, x4], _ => ⟨x0, x1, x2, x3, x4, rfl⟩
theorem my_len6 : ∀ {us : List Value}, us.length = 6 → ∃ x0, ∃ x1, ∃ x2, ∃ x3, ∃ x4, ∃ x5, us = [x0, x1, x2, x3, x4, x5]
  | [x0, x1, x2, x3, x4, x5], _ => ⟨x0, x1, x2, x3, x4, x5, rfl⟩
set_option maxHeartbeats 0 in
theorem all_mk {l : PySem.W.OpenLaw} {w : World} {K : PySem.W.Frag} {h : Heap} {mg : Str → Option Value} {fa f1 f2 f3 f4 f5 f6 f7 f8 f9 f10 f11 f12 f13 f14 f15 f16 f17 f18 f19 f20 f21 f22 f23 f24 f25 f26 f27 f28 f29 f30 f31 f32 f33 f34 f35 f36 f37 f38 : Addr} (X : K.In h) (G : h.Ns mainGlobals mg) (hfa : mg "law" = some (.ref fa))
    {od1 an1 od2 an2 od3 an3 od4 an4 od5 an5 od6 an6 od7 an7 od8 an8 od9 an9 od10 an10 od11 an11 od12 an12 od13 an13 od14 an14 od15 an15 od16 an16 od17 an17 od18 an18 od19 an19 od20 an20 od21 an21 od22 an22 od23 an23 od24 an24 od25 an25 od26 an26 od27 an27 od28 an28 od29 an29 od30 an30 od31 an31 od32 an32 od33 an33 od34 an34 od35 an35 od36 an36 od37 an37 od38 an38 : Option Addr} {sl1 sl2 sl3 sl4 sl5 sl6 sl7 sl8 sl9 sl10 sl11 sl12 sl13 sl14 sl15 sl16 sl17 sl18 sl19 sl20 sl21 sl22 sl23 sl24 sl25 sl26 sl27 sl28 sl29 sl30 sl31 sl32 sl33 sl34 sl35 sl36 sl37 sl38 : Array (Option Value)} {oc1 kV1 dc1 pm1 cd1 ct1 oc2 kV2 dc2 pm2 cd2 ct2 oc3 kV3 dc3 pm3 cd3 ct3 oc4 kV4 dc4 pm4 cd4 ct4 oc5 kV5 dc5 pm5 cd5 ct5 oc6 kV6 dc6 pm6 cd6 ct6 oc7 kV7 dc7 pm7 cd7 ct7 oc8 kV8 dc8 pm8 cd8 ct8 oc9 kV9 dc9 pm9 cd9 ct9 oc10 kV10 dc10 pm10 cd10 ct10 oc11 kV11 dc11 pm11 cd11 ct11 oc12 kV12 dc12 pm12 cd12 ct12 oc13 kV13 dc13 pm13 cd13 ct13 oc14 kV14 dc14 pm14 cd14 ct14 oc15 kV15 dc15 pm15 cd15 ct15 oc16 kV16 dc16 pm16 cd16 ct16 oc17 kV17 dc17 pm17 cd17 ct17 oc18 kV18 dc18 pm18 cd18 ct18 oc19 kV19 dc19 pm19 cd19 ct19 oc20 kV20 dc20 pm20 cd20 ct20 oc21 kV21 dc21 pm21 cd21 ct21 oc22 kV22 dc22 pm22 cd22 ct22 oc23 kV23 dc23 pm23 cd23 ct23 oc24 kV24 dc24 pm24 cd24 ct24 oc25 kV25 dc25 pm25 cd25 ct25 oc26 kV26 dc26 pm26 cd26 ct26 oc27 kV27 dc27 pm27 cd27 ct27 oc28 kV28 dc28 pm28 cd28 ct28 oc29 kV29 dc29 pm29 cd29 ct29 oc30 kV30 dc30 pm30 cd30 ct30 oc31 kV31 dc31 pm31 cd31 ct31 oc32 kV32 dc32 pm32 cd32 ct32 oc33 kV33 dc33 pm33 cd33 ct33 oc34 kV34 dc34 pm34 cd34 ct34 oc35 kV35 dc35 pm35 cd35 ct35 oc36 kV36 dc36 pm36 cd36 ct36 oc37 kV37 dc37 pm37 cd37 ct37 oc38 kV38 dc38 pm38 cd38 ct38 : Value}
    (a1 : PySem.W.nsIn K mainGlobals "tidy" = some (some (.ref f1))) (l1 : K.lookup f1 = some ⟨oc1, od1, .func (PySem.W.fnOf "tidy" "tidy" (defArgs (top 27)) (defBody (top 27)) (defScope (top 27)) .none kV1 dc1 pm1 an1 cd1 ct1), sl1⟩) (c1 : PySem.W.codeIn K cd1 "tidy" = true) (k1 : PySem.W.keepIn K (.ref f1) = true)
    (a2 : PySem.W.nsIn K mainGlobals "made" = some (some (.ref f2))) (l2 : K.lookup f2 = some ⟨oc2, od2, .func (PySem.W.fnOf "made" "made" (defArgs (top 25)) (defBody (top 25)) (defScope (top 25)) .none kV2 dc2 pm2 an2 cd2 ct2), sl2⟩) (c2 : PySem.W.codeIn K cd2 "made" = true) (k2 : PySem.W.keepIn K (.ref f2) = true)
    (a3 : PySem.W.nsIn K mainGlobals "joined" = some (some (.ref f3))) (l3 : K.lookup f3 = some ⟨oc3, od3, .func (PySem.W.fnOf "joined" "joined" (defArgs (top 28)) (defBody (top 28)) (defScope (top 28)) .none kV3 dc3 pm3 an3 cd3 ct3), sl3⟩) (c3 : PySem.W.codeIn K cd3 "joined" = true) (k3 : PySem.W.keepIn K (.ref f3) = true)
    (a4 : PySem.W.nsIn K mainGlobals "is_whole" = some (some (.ref f4))) (l4 : K.lookup f4 = some ⟨oc4, od4, .func (PySem.W.fnOf "is_whole" "is_whole" (defArgs (top 8)) (defBody (top 8)) (defScope (top 8)) .none kV4 dc4 pm4 an4 cd4 ct4), sl4⟩) (c4 : PySem.W.codeIn K cd4 "is_whole" = true) (k4 : PySem.W.keepIn K (.ref f4) = true)
    (a5 : PySem.W.nsIn K mainGlobals "share" = some (some (.ref f5))) (l5 : K.lookup f5 = some ⟨oc5, od5, .func (PySem.W.fnOf "share" "share" (defArgs (top 36)) (defBody (top 36)) (defScope (top 36)) .none kV5 dc5 pm5 an5 cd5 ct5), sl5⟩) (c5 : PySem.W.codeIn K cd5 "share" = true) (k5 : PySem.W.keepIn K (.ref f5) = true)
    (a6 : PySem.W.nsIn K mainGlobals "is_within" = some (some (.ref f6))) (l6 : K.lookup f6 = some ⟨oc6, od6, .func (PySem.W.fnOf "is_within" "is_within" (defArgs (top 9)) (defBody (top 9)) (defScope (top 9)) .none kV6 dc6 pm6 an6 cd6 ct6), sl6⟩) (c6 : PySem.W.codeIn K cd6 "is_within" = true) (k6 : PySem.W.keepIn K (.ref f6) = true)
    (a7 : PySem.W.nsIn K mainGlobals "need_many" = some (some (.ref f7))) (l7 : K.lookup f7 = some ⟨oc7, od7, .func (PySem.W.fnOf "need_many" "need_many" (defArgs (top 32)) (defBody (top 32)) (defScope (top 32)) .none kV7 dc7 pm7 an7 cd7 ct7), sl7⟩) (c7 : PySem.W.codeIn K cd7 "need_many" = true) (k7 : PySem.W.keepIn K (.ref f7) = true)
    (a8 : PySem.W.nsIn K mainGlobals "is_tree" = some (some (.ref f8))) (l8 : K.lookup f8 = some ⟨oc8, od8, .func (PySem.W.fnOf "is_tree" "is_tree" (defArgs (top 33)) (defBody (top 33)) (defScope (top 33)) .none kV8 dc8 pm8 an8 cd8 ct8), sl8⟩) (c8 : PySem.W.codeIn K cd8 "is_tree" = true) (k8 : PySem.W.keepIn K (.ref f8) = true)
    (a9 : PySem.W.nsIn K mainGlobals "need_tree" = some (some (.ref f9))) (l9 : K.lookup f9 = some ⟨oc9, od9, .func (PySem.W.fnOf "need_tree" "need_tree" (defArgs (top 35)) (defBody (top 35)) (defScope (top 35)) .none kV9 dc9 pm9 an9 cd9 ct9), sl9⟩) (c9 : PySem.W.codeIn K cd9 "need_tree" = true) (k9 : PySem.W.keepIn K (.ref f9) = true)
    (a10 : PySem.W.nsIn K mainGlobals "is_end" = some (some (.ref f10))) (l10 : K.lookup f10 = some ⟨oc10, od10, .func (PySem.W.fnOf "is_end" "is_end" (defArgs (top 21)) (defBody (top 21)) (defScope (top 21)) .none kV10 dc10 pm10 an10 cd10 ct10), sl10⟩) (c10 : PySem.W.codeIn K cd10 "is_end" = true) (k10 : PySem.W.keepIn K (.ref f10) = true)
    (a11 : PySem.W.nsIn K mainGlobals "is_deed" = some (some (.ref f11))) (l11 : K.lookup f11 = some ⟨oc11, od11, .func (PySem.W.fnOf "is_deed" "is_deed" (defArgs (top 22)) (defBody (top 22)) (defScope (top 22)) .none kV11 dc11 pm11 an11 cd11 ct11), sl11⟩) (c11 : PySem.W.codeIn K cd11 "is_deed" = true) (k11 : PySem.W.keepIn K (.ref f11) = true)
    (a12 : PySem.W.nsIn K mainGlobals "need_deeds" = some (some (.ref f12))) (l12 : K.lookup f12 = some ⟨oc12, od12, .func (PySem.W.fnOf "need_deeds" "need_deeds" (defArgs (top 34)) (defBody (top 34)) (defScope (top 34)) .none kV12 dc12 pm12 an12 cd12 ct12), sl12⟩) (c12 : PySem.W.codeIn K cd12 "need_deeds" = true) (k12 : PySem.W.keepIn K (.ref f12) = true)
    (a13 : PySem.W.nsIn K mainGlobals "need_value" = some (some (.ref f13))) (l13 : K.lookup f13 = some ⟨oc13, od13, .func (PySem.W.fnOf "need_value" "need_value" (defArgs (top 23)) (defBody (top 23)) (defScope (top 23)) .none kV13 dc13 pm13 an13 cd13 ct13), sl13⟩) (c13 : PySem.W.codeIn K cd13 "need_value" = true) (k13 : PySem.W.keepIn K (.ref f13) = true)
    (a14 : PySem.W.nsIn K mainGlobals "shared_out" = some (some (.ref f14))) (l14 : K.lookup f14 = some ⟨oc14, od14, .func (PySem.W.fnOf "shared_out" "shared_out" (defArgs (top 37)) (defBody (top 37)) (defScope (top 37)) .none kV14 dc14 pm14 an14 cd14 ct14), sl14⟩) (c14 : PySem.W.codeIn K cd14 "shared_out" = true) (k14 : PySem.W.keepIn K (.ref f14) = true)
    (a15 : PySem.W.nsIn K mainGlobals "share_by" = some (some (.ref f15))) (l15 : K.lookup f15 = some ⟨oc15, od15, .func (PySem.W.fnOf "share_by" "share_by" (defArgs (top 44)) (defBody (top 44)) (defScope (top 44)) .none kV15 dc15 pm15 an15 cd15 ct15), sl15⟩) (c15 : PySem.W.codeIn K cd15 "share_by" = true) (k15 : PySem.W.keepIn K (.ref f15) = true)
    (a16 : PySem.W.nsIn K mainGlobals "are_numbers" = some (some (.ref f16))) (l16 : K.lookup f16 = some ⟨oc16, od16, .func (PySem.W.fnOf "are_numbers" "are_numbers" (defArgs (top 39)) (defBody (top 39)) (defScope (top 39)) .none kV16 dc16 pm16 an16 cd16 ct16), sl16⟩) (c16 : PySem.W.codeIn K cd16 "are_numbers" = true) (k16 : PySem.W.keepIn K (.ref f16) = true)
    (a17 : PySem.W.nsIn K mainGlobals "need_numbers" = some (some (.ref f17))) (l17 : K.lookup f17 = some ⟨oc17, od17, .func (PySem.W.fnOf "need_numbers" "need_numbers" (defArgs (top 42)) (defBody (top 42)) (defScope (top 42)) .none kV17 dc17 pm17 an17 cd17 ct17), sl17⟩) (c17 : PySem.W.codeIn K cd17 "need_numbers" = true) (k17 : PySem.W.keepIn K (.ref f17) = true)
    (a18 : PySem.W.nsIn K mainGlobals "is_by_table" = some (some (.ref f18))) (l18 : K.lookup f18 = some ⟨oc18, od18, .func (PySem.W.fnOf "is_by_table" "is_by_table" (defArgs (top 14)) (defBody (top 14)) (defScope (top 14)) .none kV18 dc18 pm18 an18 cd18 ct18), sl18⟩) (c18 : PySem.W.codeIn K cd18 "is_by_table" = true) (k18 : PySem.W.keepIn K (.ref f18) = true)
    (a19 : PySem.W.nsIn K mainGlobals "need_by_table" = some (some (.ref f19))) (l19 : K.lookup f19 = some ⟨oc19, od19, .func (PySem.W.fnOf "need_by_table" "need_by_table" (defArgs (top 15)) (defBody (top 15)) (defScope (top 15)) .none kV19 dc19 pm19 an19 cd19 ct19), sl19⟩) (c19 : PySem.W.codeIn K cd19 "need_by_table" = true) (k19 : PySem.W.keepIn K (.ref f19) = true)
    (a20 : PySem.W.nsIn K mainGlobals "need_table" = some (some (.ref f20))) (l20 : K.lookup f20 = some ⟨oc20, od20, .func (PySem.W.fnOf "need_table" "need_table" (defArgs (top 40)) (defBody (top 40)) (defScope (top 40)) .none kV20 dc20 pm20 an20 cd20 ct20), sl20⟩) (c20 : PySem.W.codeIn K cd20 "need_table" = true) (k20 : PySem.W.keepIn K (.ref f20) = true)
    (a21 : PySem.W.nsIn K mainGlobals "need_table_of" = some (some (.ref f21))) (l21 : K.lookup f21 = some ⟨oc21, od21, .func (PySem.W.fnOf "need_table_of" "need_table_of" (defArgs (top 41)) (defBody (top 41)) (defScope (top 41)) .none kV21 dc21 pm21 an21 cd21 ct21), sl21⟩) (c21 : PySem.W.codeIn K cd21 "need_table_of" = true) (k21 : PySem.W.keepIn K (.ref f21) = true)
    (a22 : PySem.W.nsIn K mainGlobals "shared_by" = some (some (.ref f22))) (l22 : K.lookup f22 = some ⟨oc22, od22, .func (PySem.W.fnOf "shared_by" "shared_by" (defArgs (top 45)) (defBody (top 45)) (defScope (top 45)) .none kV22 dc22 pm22 an22 cd22 ct22), sl22⟩) (c22 : PySem.W.codeIn K cd22 "shared_by" = true) (k22 : PySem.W.keepIn K (.ref f22) = true)
    (a23 : PySem.W.nsIn K mainGlobals "by_table_then" = some (some (.ref f23))) (l23 : K.lookup f23 = some ⟨oc23, od23, .func (PySem.W.fnOf "by_table_then" "by_table_then" (defArgs (top 16)) (defBody (top 16)) (defScope (top 16)) .none kV23 dc23 pm23 an23 cd23 ct23), sl23⟩) (c23 : PySem.W.codeIn K cd23 "by_table_then" = true) (k23 : PySem.W.keepIn K (.ref f23) = true)
    (a24 : PySem.W.nsIn K mainGlobals "grown" = some (some (.ref f24))) (l24 : K.lookup f24 = some ⟨oc24, od24, .func (PySem.W.fnOf "grown" "grown" (defArgs (top 17)) (defBody (top 17)) (defScope (top 17)) .none kV24 dc24 pm24 an24 cd24 ct24), sl24⟩) (c24 : PySem.W.codeIn K cd24 "grown" = true) (k24 : PySem.W.keepIn K (.ref f24) = true)
    (a25 : PySem.W.nsIn K mainGlobals "family" = some (some (.ref f25))) (l25 : K.lookup f25 = some ⟨oc25, od25, .func (PySem.W.fnOf "family" "family" (defArgs (top 18)) (defBody (top 18)) (defScope (top 18)) .none kV25 dc25 pm25 an25 cd25 ct25), sl25⟩) (c25 : PySem.W.codeIn K cd25 "family" = true) (k25 : PySem.W.keepIn K (.ref f25) = true)
    (a26 : PySem.W.nsIn K mainGlobals "own_table" = some (some (.ref f26))) (l26 : K.lookup f26 = some ⟨oc26, od26, .func (PySem.W.fnOf "own_table" "own_table" (defArgs (top 43)) (defBody (top 43)) (defScope (top 43)) .none kV26 dc26 pm26 an26 cd26 ct26), sl26⟩) (c26 : PySem.W.codeIn K cd26 "own_table" = true) (k26 : PySem.W.keepIn K (.ref f26) = true)
    (a27 : PySem.W.nsIn K mainGlobals "_law_draw" = some (some (.ref f27))) (l27 : K.lookup f27 = some ⟨oc27, od27, .func (PySem.W.fnOf "_law_draw" "_law_draw" (defArgs (top 48)) (defBody (top 48)) (defScope (top 48)) .none kV27 dc27 pm27 an27 cd27 ct27), sl27⟩) (c27 : PySem.W.codeIn K cd27 "_law_draw" = true) (k27 : PySem.W.keepIn K (.ref f27) = true)
    (a28 : PySem.W.nsIn K mainGlobals "_law_tree" = some (some (.ref f28))) (l28 : K.lookup f28 = some ⟨oc28, od28, .func (PySem.W.fnOf "_law_tree" "_law_tree" (defArgs (top 49)) (defBody (top 49)) (defScope (top 49)) .none kV28 dc28 pm28 an28 cd28 ct28), sl28⟩) (c28 : PySem.W.codeIn K cd28 "_law_tree" = true) (k28 : PySem.W.keepIn K (.ref f28) = true)
    (a29 : PySem.W.nsIn K mainGlobals "need_deed" = some (some (.ref f29))) (l29 : K.lookup f29 = some ⟨oc29, od29, .func (PySem.W.fnOf "need_deed" "need_deed" (defArgs (top 24)) (defBody (top 24)) (defScope (top 24)) .none kV29 dc29 pm29 an29 cd29 ct29), sl29⟩) (c29 : PySem.W.codeIn K cd29 "need_deed" = true) (k29 : PySem.W.keepIn K (.ref f29) = true)
    (a30 : PySem.W.nsIn K mainGlobals "done" = some (some (.ref f30))) (l30 : K.lookup f30 = some ⟨oc30, od30, .func (PySem.W.fnOf "done" "done" (defArgs (top 26)) (defBody (top 26)) (defScope (top 26)) .none kV30 dc30 pm30 an30 cd30 ct30), sl30⟩) (c30 : PySem.W.codeIn K cd30 "done" = true) (k30 : PySem.W.keepIn K (.ref f30) = true)
    (a31 : PySem.W.nsIn K mainGlobals "_law_by_table" = some (some (.ref f31))) (l31 : K.lookup f31 = some ⟨oc31, od31, .func (PySem.W.fnOf "_law_by_table" "_law_by_table" (defArgs (top 51)) (defBody (top 51)) (defScope (top 51)) .none kV31 dc31 pm31 an31 cd31 ct31), sl31⟩) (c31 : PySem.W.codeIn K cd31 "_law_by_table" = true) (k31 : PySem.W.keepIn K (.ref f31) = true)
    (a32 : PySem.W.nsIn K mainGlobals "then" = some (some (.ref f32))) (l32 : K.lookup f32 = some ⟨oc32, od32, .func (PySem.W.fnOf "then" "then" (defArgs (top 29)) (defBody (top 29)) (defScope (top 29)) .none kV32 dc32 pm32 an32 cd32 ct32), sl32⟩) (c32 : PySem.W.codeIn K cd32 "then" = true) (k32 : PySem.W.keepIn K (.ref f32) = true)
    (a33 : PySem.W.nsIn K mainGlobals "words" = some (some (.ref f33))) (l33 : K.lookup f33 = some ⟨oc33, od33, .func (PySem.W.fnOf "words" "words" (defArgs (top 19)) (defBody (top 19)) (defScope (top 19)) .none kV33 dc33 pm33 an33 cd33 ct33), sl33⟩) (c33 : PySem.W.codeIn K cd33 "words" = true) (k33 : PySem.W.keepIn K (.ref f33) = true)
    (a34 : PySem.W.nsIn K mainGlobals "_law_made" = some (some (.ref f34))) (l34 : K.lookup f34 = some ⟨oc34, od34, .func (PySem.W.fnOf "_law_made" "_law_made" (defArgs (top 52)) (defBody (top 52)) (defScope (top 52)) .none kV34 dc34 pm34 an34 cd34 ct34), sl34⟩) (c34 : PySem.W.codeIn K cd34 "_law_made" = true) (k34 : PySem.W.keepIn K (.ref f34) = true)
    (a35 : PySem.W.nsIn K mainGlobals "_law_deed" = some (some (.ref f35))) (l35 : K.lookup f35 = some ⟨oc35, od35, .func (PySem.W.fnOf "_law_deed" "_law_deed" (defArgs (top 50)) (defBody (top 50)) (defScope (top 50)) .none kV35 dc35 pm35 an35 cd35 ct35), sl35⟩) (c35 : PySem.W.codeIn K cd35 "_law_deed" = true) (k35 : PySem.W.keepIn K (.ref f35) = true)
    (a36 : PySem.W.nsIn K mainGlobals "_law_right" = some (some (.ref f36))) (l36 : K.lookup f36 = some ⟨oc36, od36, .func (PySem.W.fnOf "_law_right" "_law_right" (defArgs (top 53)) (defBody (top 53)) (defScope (top 53)) .none kV36 dc36 pm36 an36 cd36 ct36), sl36⟩) (c36 : PySem.W.codeIn K cd36 "_law_right" = true) (k36 : PySem.W.keepIn K (.ref f36) = true)
    (a37 : PySem.W.nsIn K mainGlobals "_law_store" = some (some (.ref f37))) (l37 : K.lookup f37 = some ⟨oc37, od37, .func (PySem.W.fnOf "_law_store" "_law_store" (defArgs (top 47)) (defBody (top 47)) (defScope (top 47)) .none kV37 dc37 pm37 an37 cd37 ct37), sl37⟩) (c37 : PySem.W.codeIn K cd37 "_law_store" = true) (k37 : PySem.W.keepIn K (.ref f37) = true)
    (a38 : PySem.W.nsIn K mainGlobals "law" = some (some (.ref f38))) (l38 : K.lookup f38 = some ⟨oc38, od38, .func (PySem.W.fnOf "law" "law" (defArgs (top 54)) (defBody (top 54)) (defScope (top 54)) .none kV38 dc38 pm38 an38 cd38 ct38), sl38⟩) (c38 : PySem.W.codeIn K cd38 "law" = true) (k38 : PySem.W.keepIn K (.ref f38) = true)
    {t_MOST_DEEDS : Tok} (ga_MOST_DEEDS : PySem.W.nsIn K mainGlobals "MOST_DEEDS" = some (some (.int 40 t_MOST_DEEDS)))
    {t_MOST_GIVEN : Tok} (ga_MOST_GIVEN : PySem.W.nsIn K mainGlobals "MOST_GIVEN" = some (some (.int 4 t_MOST_GIVEN)))
    {t_MOST_IN_FAMILY : Tok} (ga_MOST_IN_FAMILY : PySem.W.nsIn K mainGlobals "MOST_IN_FAMILY" = some (some (.int 60 t_MOST_IN_FAMILY)))
    {t_MOST_STATES : Tok} (ga_MOST_STATES : PySem.W.nsIn K mainGlobals "MOST_STATES" = some (some (.int 5 t_MOST_STATES)))
    (ga_enumerate : PySem.W.nsIn K mainGlobals "enumerate" = some none)
    (ga_zip : PySem.W.nsIn K mainGlobals "zip" = some none)
    (z_abs : PySem.W.nsIn K mainGlobals "abs" = some none)
    (z_len : PySem.W.nsIn K mainGlobals "len" = some none)
    (z_max : PySem.W.nsIn K mainGlobals "max" = some none)
    (z_min : PySem.W.nsIn K mainGlobals "min" = some none)
    (z_divmod : PySem.W.nsIn K mainGlobals "divmod" = some none)
    (z_repr : PySem.W.nsIn K mainGlobals "repr" = some none)
    (z_isinstance : PySem.W.nsIn K mainGlobals "isinstance" = some none)
    (z_all : PySem.W.nsIn K mainGlobals "all" = some none)
    (z_range : PySem.W.nsIn K mainGlobals "range" = some none)
    (z_int : PySem.W.nsIn K mainGlobals "int" = some none)
    (z_bool : PySem.W.nsIn K mainGlobals "bool" = some none)
    (z_str : PySem.W.nsIn K mainGlobals "str" = some none)
    (z_tuple : PySem.W.nsIn K mainGlobals "tuple" = some none)
    (z_list : PySem.W.nsIn K mainGlobals "list" = some none)
    (z_dict : PySem.W.nsIn K mainGlobals "dict" = some none)
    :
    ∃ fd : FuncData, (∀ (s : Shared) (v : Value), BindsTo s fd ⟨[v], []⟩ [("_law_script", v)]) ∧ ∀ base : Heap, K.In base → base.Ns mainGlobals mg → FnOk l.prog w K mg base CX0 46 fa fd ["_law_script"] (sp_law K) := by
  have e := hfa.symm.trans (PySem.W.mg_of X G a38)
  cases e
  have F1 := fun_mk (st := (top 27)) l1 c1 k1
  have F2 := fun_mk (st := (top 25)) l2 c2 k2
  have F3 := fun_mk (st := (top 28)) l3 c3 k3
  have F4 := fun_mk (st := (top 8)) l4 c4 k4
  have F5 := fun_mk (st := (top 36)) l5 c5 k5
  have F6 := fun_mk (st := (top 9)) l6 c6 k6
  have F7 := fun_mk (st := (top 32)) l7 c7 k7
  have F8 := fun_mk (st := (top 33)) l8 c8 k8
  have F9 := fun_mk (st := (top 35)) l9 c9 k9
  have F10 := fun_mk (st := (top 21)) l10 c10 k10
  have F11 := fun_mk (st := (top 22)) l11 c11 k11
  have F12 := fun_mk (st := (top 34)) l12 c12 k12
  have F13 := fun_mk (st := (top 23)) l13 c13 k13
  have F14 := fun_mk (st := (top 37)) l14 c14 k14
  have F15 := fun_mk (st := (top 44)) l15 c15 k15
  have F16 := fun_mk (st := (top 39)) l16 c16 k16
  have F17 := fun_mk (st := (top 42)) l17 c17 k17
  have F18 := fun_mk (st := (top 14)) l18 c18 k18
  have F19 := fun_mk (st := (top 15)) l19 c19 k19
  have F20 := fun_mk (st := (top 40)) l20 c20 k20
  have F21 := fun_mk (st := (top 41)) l21 c21 k21
  have F22 := fun_mk (st := (top 45)) l22 c22 k22
  have F23 := fun_mk (st := (top 16)) l23 c23 k23
  have F24 := fun_mk (st := (top 17)) l24 c24 k24
  have F25 := fun_mk (st := (top 18)) l25 c25 k25
  have F26 := fun_mk (st := (top 43)) l26 c26 k26
  have F27 := fun_mk (st := (top 48)) l27 c27 k27
  have F28 := fun_mk (st := (top 49)) l28 c28 k28
  have F29 := fun_mk (st := (top 24)) l29 c29 k29
  have F30 := fun_mk (st := (top 26)) l30 c30 k30
  have F31 := fun_mk (st := (top 51)) l31 c31 k31
  have F32 := fun_mk (st := (top 29)) l32 c32 k32
  have F33 := fun_mk (st := (top 19)) l33 c33 k33
  have F34 := fun_mk (st := (top 52)) l34 c34 k34
  have F35 := fun_mk (st := (top 50)) l35 c35 k35
  have F36 := fun_mk (st := (top 53)) l36 c36 k36
  have F37 := fun_mk (st := (top 47)) l37 c37 k37
  have F38 := fun_mk (st := (top 54)) l38 c38 k38
  have b1 := F1.binds (ps := ["add", "low", "high"]) fun _ _ _ _ _ _ us hl => by obtain ⟨_, _, _, rfl⟩ := my_len3 hl; rfl
  have b2 := F2.binds (ps := ["deed", "value"]) fun _ _ _ _ _ _ us hl => by obtain ⟨_, _, rfl⟩ := my_len2 hl; rfl
  have b3 := F3.binds (ps := ["one", "other"]) fun _ _ _ _ _ _ us hl => by obtain ⟨_, _, rfl⟩ := my_len2 hl; rfl
  have b4 := F4.binds (ps := ["thing"]) fun _ _ _ _ _ _ us hl => by obtain ⟨_, rfl⟩ := my_len1 hl; rfl
  have b5 := F5.binds (ps := ["deeds", "tree", "value", "values"]) fun _ _ _ _ _ _ us hl => by obtain ⟨_, _, _, _, rfl⟩ := my_len4 hl; rfl
  have b6 := F6.binds (ps := ["thing", "least", "greatest"]) fun _ _ _ _ _ _ us hl => by obtain ⟨_, _, _, rfl⟩ := my_len3 hl; rfl
  have b7 := F7.binds (ps := ["thing"]) fun _ _ _ _ _ _ us hl => by obtain ⟨_, rfl⟩ := my_len1 hl; rfl
  have b8 := F8.binds (ps := ["thing", "many"]) fun _ _ _ _ _ _ us hl => by obtain ⟨_, _, rfl⟩ := my_len2 hl; rfl
  have b9 := F9.binds (ps := ["thing", "many"]) fun _ _ _ _ _ _ us hl => by obtain ⟨_, _, rfl⟩ := my_len2 hl; rfl
  have b10 := F10.binds (ps := ["thing"]) fun _ _ _ _ _ _ us hl => by obtain ⟨_, rfl⟩ := my_len1 hl; rfl
  have b11 := F11.binds (ps := ["thing"]) fun _ _ _ _ _ _ us hl => by obtain ⟨_, rfl⟩ := my_len1 hl; rfl
  have b12 := F12.binds (ps := ["thing"]) fun _ _ _ _ _ _ us hl => by obtain ⟨_, rfl⟩ := my_len1 hl; rfl
  have b13 := F13.binds (ps := ["thing"]) fun _ _ _ _ _ _ us hl => by obtain ⟨_, rfl⟩ := my_len1 hl; rfl
  have b14 := F14.binds (ps := ["deeds", "tree", "value"]) fun _ _ _ _ _ _ us hl => by obtain ⟨_, _, _, rfl⟩ := my_len3 hl; rfl
  have b15 := F15.binds (ps := ["deeds", "table", "numbers", "tree", "state", "states"]) fun _ _ _ _ _ _ us hl => by obtain ⟨_, _, _, _, _, _, rfl⟩ := my_len6 hl; rfl
  have b16 := F16.binds (ps := ["thing", "many"]) fun _ _ _ _ _ _ us hl => by obtain ⟨_, _, rfl⟩ := my_len2 hl; rfl
  have b17 := F17.binds (ps := ["table", "thing"]) fun _ _ _ _ _ _ us hl => by obtain ⟨_, _, rfl⟩ := my_len2 hl; rfl
  have b18 := F18.binds (ps := ["thing"]) fun _ _ _ _ _ _ us hl => by obtain ⟨_, rfl⟩ := my_len1 hl; rfl
  have b19 := F19.binds (ps := ["thing", "least", "most"]) fun _ _ _ _ _ _ us hl => by obtain ⟨_, _, _, rfl⟩ := my_len3 hl; rfl
  have b20 := F20.binds (ps := ["thing"]) fun _ _ _ _ _ _ us hl => by obtain ⟨_, rfl⟩ := my_len1 hl; rfl
  have b21 := F21.binds (ps := ["deeds", "table"]) fun _ _ _ _ _ _ us hl => by obtain ⟨_, _, rfl⟩ := my_len2 hl; rfl
  have b22 := F22.binds (ps := ["deeds", "table", "numbers", "tree", "state"]) fun _ _ _ _ _ _ us hl => by obtain ⟨_, _, _, _, _, rfl⟩ := my_len5 hl; rfl
  have b23 := F23.binds (ps := ["one", "other"]) fun _ _ _ _ _ _ us hl => by obtain ⟨_, _, rfl⟩ := my_len2 hl; rfl
  have b24 := F24.binds (ps := ["deeds"]) fun _ _ _ _ _ _ us hl => by obtain ⟨_, rfl⟩ := my_len1 hl; rfl
  have b25 := F25.binds (ps := ["deeds"]) fun _ _ _ _ _ _ us hl => by obtain ⟨_, rfl⟩ := my_len1 hl; rfl
  have b26 := F26.binds (ps := ["deeds"]) fun _ _ _ _ _ _ us hl => by obtain ⟨_, rfl⟩ := my_len1 hl; rfl
  have b27 := F27.binds (ps := ["_law_store_here", "_law_many"]) fun _ _ _ _ _ _ us hl => by obtain ⟨_, _, rfl⟩ := my_len2 hl; rfl
  have b28 := F28.binds (ps := ["_law_store_here", "_law_first", "_law_many"]) fun _ _ _ _ _ _ us hl => by obtain ⟨_, _, _, rfl⟩ := my_len3 hl; rfl
  have b29 := F29.binds (ps := ["thing"]) fun _ _ _ _ _ _ us hl => by obtain ⟨_, rfl⟩ := my_len1 hl; rfl
  have b30 := F30.binds (ps := ["deed", "value"]) fun _ _ _ _ _ _ us hl => by obtain ⟨_, _, rfl⟩ := my_len2 hl; rfl
  have b31 := F31.binds (ps := ["_law_deed_here", "_law_states"]) fun _ _ _ _ _ _ us hl => by obtain ⟨_, _, rfl⟩ := my_len2 hl; rfl
  have b32 := F32.binds (ps := ["one", "other"]) fun _ _ _ _ _ _ us hl => by obtain ⟨_, _, rfl⟩ := my_len2 hl; rfl
  have b33 := F33.binds (ps := ["deeds"]) fun _ _ _ _ _ _ us hl => by obtain ⟨_, rfl⟩ := my_len1 hl; rfl
  have b34 := F34.binds (ps := ["_law_deeds", "_law_word"]) fun _ _ _ _ _ _ us hl => by obtain ⟨_, _, rfl⟩ := my_len2 hl; rfl
  have b35 := F35.binds (ps := ["_law_store_here", "_law_states"]) fun _ _ _ _ _ _ us hl => by obtain ⟨_, _, rfl⟩ := my_len2 hl; rfl
  have b36 := F36.binds (ps := ["_law_store_here"]) fun _ _ _ _ _ _ us hl => by obtain ⟨_, rfl⟩ := my_len1 hl; rfl
  have b37 := F37.binds (ps := ["_law_script", "_law_k"]) fun _ _ _ _ _ _ us hl => by obtain ⟨_, _, rfl⟩ := my_len2 hl; rfl
  have B : Blt mg := ⟨PySem.W.mg_none_of X G z_abs, PySem.W.mg_none_of X G z_len, PySem.W.mg_none_of X G z_max, PySem.W.mg_none_of X G z_min, PySem.W.mg_none_of X G z_divmod, PySem.W.mg_none_of X G z_repr, PySem.W.mg_none_of X G z_isinstance, PySem.W.mg_none_of X G z_all, PySem.W.mg_none_of X G z_range, PySem.W.mg_none_of X G z_int, PySem.W.mg_none_of X G z_bool, PySem.W.mg_none_of X G z_str, PySem.W.mg_none_of X G z_tuple, PySem.W.mg_none_of X G z_list, PySem.W.mg_none_of X G z_dict⟩
  refine ⟨PySem.W.fnOf "law" "law" (defArgs (top 54)) (defBody (top 54)) (defScope (top 54)) .none kV38 dc38 pm38 an38 cd38 ct38, fun s v => .of_eq rfl, fun base _ _ => ?_⟩
  have C1 : Callee l.prog w K mg base 1 "tidy" ["add", "low", "high"] (sp_tidy K) := ⟨_, _, ok_tidy (P := l.prog) (w := w) (base := base) (n := 0) F1 B      , b1, k1, PySem.W.mg_of X G a1⟩
  have C2 : Callee l.prog w K mg base 1 "made" ["deed", "value"] (sp_made K) := ⟨_, _, ok_made (P := l.prog) (w := w) (base := base) (n := 0) F2 B      , b2, k2, PySem.W.mg_of X G a2⟩
  have C3 : Callee l.prog w K mg base 2 "joined" ["one", "other"] (sp_joined K) := ⟨_, _, ok_joined (P := l.prog) (w := w) (base := base) (n := 1) F3 B   (C1.mono (by decide)) (C2.mono (by decide))   , b3, k3, PySem.W.mg_of X G a3⟩
  have C4 : Callee l.prog w K mg base 1 "is_whole" ["thing"] (sp_is_whole K) := ⟨_, _, ok_is_whole (P := l.prog) (w := w) (base := base) (n := 0) F4 B      , b4, k4, PySem.W.mg_of X G a4⟩
  have R5 : ∀ N : Nat, FnOk l.prog w K mg base CX0 (2 + N) f5 (PySem.W.fnOf "share" "share" (defArgs (top 36)) (defBody (top 36)) (defScope (top 36)) .none kV5 dc5 pm5 an5 cd5 ct5) ["deeds", "tree", "value", "values"] (sp_share N K) := by
    intro N
    induction N with
    | zero => exact fnok_vac vac_share
    | succ N ih => exact ok_share (P := l.prog) (w := w) (base := base) (n := 2 + N) F5 B (C3.mono (Nat.le_trans (show 2 ≤ 2 by decide) (Nat.le_add_right 2 N))) ⟨_, _, ih, b5, k5, PySem.W.mg_of X G a5⟩ (C2.mono (Nat.le_trans (show 1 ≤ 2 by decide) (Nat.le_add_right 2 N))) (C4.mono (Nat.le_trans (show 1 ≤ 2 by decide) (Nat.le_add_right 2 N)))  
  have C5 : Callee l.prog w K mg base 43 "share" ["deeds", "tree", "value", "values"] (sp_share 41 K) := ⟨_, _, R5 41, b5, k5, PySem.W.mg_of X G a5⟩
  have C6 : Callee l.prog w K mg base 2 "is_within" ["thing", "least", "greatest"] (sp_is_within K) := ⟨_, _, ok_is_within (P := l.prog) (w := w) (base := base) (n := 1) F6 B   (C4.mono (by decide))   , b6, k6, PySem.W.mg_of X G a6⟩
  have C7 : Callee l.prog w K mg base 3 "need_many" ["thing"] (sp_need_many K) := ⟨_, _, ok_need_many (P := l.prog) (w := w) (base := base) (n := 2) F7 B   (C6.mono (by decide))  (PySem.W.mg_of X G ga_MOST_DEEDS) , b7, k7, PySem.W.mg_of X G a7⟩
  have C8 : Callee l.prog w K mg base 4 "is_tree" ["thing", "many"] (sp_is_tree K) := ⟨_, _, ok_is_tree (P := l.prog) (w := w) (base := base) (n := 3) F8 B   (C4.mono (by decide)) (C7.mono (by decide))   , b8, k8, PySem.W.mg_of X G a8⟩
  have C9 : Callee l.prog w K mg base 5 "need_tree" ["thing", "many"] (sp_need_tree K) := ⟨_, _, ok_need_tree (P := l.prog) (w := w) (base := base) (n := 4) F9 B   (C8.mono (by decide))   , b9, k9, PySem.W.mg_of X G a9⟩
  have C10 : Callee l.prog w K mg base 2 "is_end" ["thing"] (sp_is_end K) := ⟨_, _, ok_is_end (P := l.prog) (w := w) (base := base) (n := 1) F10 B   (C4.mono (by decide))   , b10, k10, PySem.W.mg_of X G a10⟩
  have C11 : Callee l.prog w K mg base 3 "is_deed" ["thing"] (sp_is_deed K) := ⟨_, _, ok_is_deed (P := l.prog) (w := w) (base := base) (n := 2) F11 B   (C10.mono (by decide)) (C4.mono (by decide))   , b11, k11, PySem.W.mg_of X G a11⟩
  have C12 : Callee l.prog w K mg base 4 "need_deeds" ["thing"] (sp_need_deeds K) := ⟨_, _, ok_need_deeds (P := l.prog) (w := w) (base := base) (n := 3) F12 B   (C11.mono (by decide))  (PySem.W.mg_of X G ga_MOST_DEEDS) , b12, k12, PySem.W.mg_of X G a12⟩
  have C13 : Callee l.prog w K mg base 2 "need_value" ["thing"] (sp_need_value K) := ⟨_, _, ok_need_value (P := l.prog) (w := w) (base := base) (n := 1) F13 B   (C4.mono (by decide))   , b13, k13, PySem.W.mg_of X G a13⟩
  have C14 : Callee l.prog w K mg base 44 "shared_out" ["deeds", "tree", "value"] (sp_shared_out K) := ⟨_, _, ok_shared_out (P := l.prog) (w := w) (base := base) (n := 43) F14 B   (C5.mono (by decide)) (C9.mono (by decide)) (C12.mono (by decide)) (C13.mono (by decide))   , b14, k14, PySem.W.mg_of X G a14⟩
  have R15 : ∀ N : Nat, FnOk l.prog w K mg base CX0 (1 + N) f15 (PySem.W.fnOf "share_by" "share_by" (defArgs (top 44)) (defBody (top 44)) (defScope (top 44)) .none kV15 dc15 pm15 an15 cd15 ct15) ["deeds", "table", "numbers", "tree", "state", "states"] (sp_share_by N K) := by
    intro N
    induction N with
    | zero => exact fnok_vac vac_share_by
    | succ N ih => exact ok_share_by (P := l.prog) (w := w) (base := base) (n := 1 + N) F15 B ⟨_, _, ih, b15, k15, PySem.W.mg_of X G a15⟩ (C4.mono (Nat.le_trans (show 1 ≤ 1 by decide) (Nat.le_add_right 1 N)))  
  have C15 : Callee l.prog w K mg base 42 "share_by" ["deeds", "table", "numbers", "tree", "state", "states"] (sp_share_by 41 K) := ⟨_, _, R15 41, b15, k15, PySem.W.mg_of X G a15⟩
  have C16 : Callee l.prog w K mg base 3 "are_numbers" ["thing", "many"] (sp_are_numbers K) := ⟨_, _, ok_are_numbers (P := l.prog) (w := w) (base := base) (n := 2) F16 B   (C6.mono (by decide))   , b16, k16, PySem.W.mg_of X G a16⟩
  have C17 : Callee l.prog w K mg base 4 "need_numbers" ["table", "thing"] (sp_need_numbers K) := ⟨_, _, ok_need_numbers (P := l.prog) (w := w) (base := base) (n := 3) F17 B   (C16.mono (by decide))  (PySem.W.mg_of X G ga_MOST_DEEDS) , b17, k17, PySem.W.mg_of X G a17⟩
  have C18 : Callee l.prog w K mg base 3 "is_by_table" ["thing"] (sp_is_by_table K) := ⟨_, _, ok_is_by_table (P := l.prog) (w := w) (base := base) (n := 2) F18 B   (C6.mono (by decide))  (PySem.W.mg_of X G ga_MOST_STATES) , b18, k18, PySem.W.mg_of X G a18⟩
  have C19 : Callee l.prog w K mg base 4 "need_by_table" ["thing", "least", "most"] (sp_need_by_tableG K) := ⟨_, _, ok_need_by_table (P := l.prog) (w := w) (base := base) (n := 3) F19 B   (C18.mono (by decide))   , b19, k19, PySem.W.mg_of X G a19⟩
  have C20 : Callee l.prog w K mg base 4 "need_table" ["thing"] (sp_need_table K) := ⟨_, _, ok_need_table (P := l.prog) (w := w) (base := base) (n := 3) F20 B   (C16.mono (by decide))  (PySem.W.mg_of X G ga_MOST_IN_FAMILY) , b20, k20, PySem.W.mg_of X G a20⟩
  have C21 : Callee l.prog w K mg base 5 "need_table_of" ["deeds", "table"] (sp_need_table_of K) := ⟨_, _, ok_need_table_of (P := l.prog) (w := w) (base := base) (n := 4) F21 B   (C19.mono (by decide)) (C20.mono (by decide))   , b21, k21, PySem.W.mg_of X G a21⟩
  have C22 : Callee l.prog w K mg base 43 "shared_by" ["deeds", "table", "numbers", "tree", "state"] (sp_shared_by K) := ⟨_, _, ok_shared_by (P := l.prog) (w := w) (base := base) (n := 42) F22 B   (C15.mono (by decide)) (C9.mono (by decide)) (C6.mono (by decide)) (C17.mono (by decide)) (C21.mono (by decide))   , b22, k22, PySem.W.mg_of X G a22⟩
  have C23 : Callee l.prog w K mg base 1 "by_table_then" ["one", "other"] (sp_thenF K) := ⟨_, _, ok_by_table_then (P := l.prog) (w := w) (base := base) (n := 0) F23 B      , b23, k23, PySem.W.mg_of X G a23⟩
  have C24 : Callee l.prog w K mg base 5 "grown" ["deeds"] (sp_grownF K) := ⟨_, _, ok_grown (P := l.prog) (w := w) (base := base) (n := 4) F24 B   (C23.mono (by decide)) (C19.mono (by decide)) (PySem.W.mg_none_of X G ga_enumerate) (PySem.W.mg_of X G ga_MOST_IN_FAMILY) (PySem.W.mg_of X G ga_MOST_GIVEN) , b24, k24, PySem.W.mg_of X G a24⟩
  have C25 : Callee l.prog w K mg base 6 "family" ["deeds"] (sp_famP K) := ⟨_, _, ok_family (P := l.prog) (w := w) (base := base) (n := 5) F25 B   (C24.mono (by decide))   , b25, k25, PySem.W.mg_of X G a25⟩
  have C26 : Callee l.prog w K mg base 7 "own_table" ["deeds"] (sp_ownP K) := ⟨_, _, ok_own_table (P := l.prog) (w := w) (base := base) (n := 6) F26 B   (C23.mono (by decide)) (C25.mono (by decide)) (PySem.W.mg_none_of X G ga_enumerate)  , b26, k26, PySem.W.mg_of X G a26⟩
  have C27 : Callee l.prog w K mg base 1 "_law_draw" ["_law_store_here", "_law_many"] (sp_draw K) := ⟨_, _, ok__law_draw (P := l.prog) (w := w) (base := base) (n := 0) F27 B      , b27, k27, PySem.W.mg_of X G a27⟩
  have R28 : ∀ N : Nat, FnOk l.prog w K mg base CX0 (1 + N) f28 (PySem.W.fnOf "_law_tree" "_law_tree" (defArgs (top 49)) (defBody (top 49)) (defScope (top 49)) .none kV28 dc28 pm28 an28 cd28 ct28) ["_law_store_here", "_law_first", "_law_many"] (sp_tree3 N K) := by
    intro N
    induction N with
    | zero => exact fnok_vac vac_tree3
    | succ N ih => exact ok__law_tree (P := l.prog) (w := w) (base := base) (n := 1 + N) F28 B ⟨_, _, ih, b28, k28, PySem.W.mg_of X G a28⟩ (C27.mono (Nat.le_trans (show 1 ≤ 1 by decide) (Nat.le_add_right 1 N)))  
  have C28 : Callee l.prog w K mg base 41 "_law_tree" ["_law_store_here", "_law_first", "_law_many"] (sp_tree3 40 K) := ⟨_, _, R28 40, b28, k28, PySem.W.mg_of X G a28⟩
  have C29 : Callee l.prog w K mg base 4 "need_deed" ["thing"] (sp_need_deed K) := ⟨_, _, ok_need_deed (P := l.prog) (w := w) (base := base) (n := 3) F29 B   (C11.mono (by decide))   , b29, k29, PySem.W.mg_of X G a29⟩
  have C30 : Callee l.prog w K mg base 5 "done" ["deed", "value"] (sp_done K) := ⟨_, _, ok_done (P := l.prog) (w := w) (base := base) (n := 4) F30 B   (C2.mono (by decide)) (C29.mono (by decide)) (C13.mono (by decide))   , b30, k30, PySem.W.mg_of X G a30⟩
  have C31 : Callee l.prog w K mg base 6 "_law_by_table" ["_law_deed_here", "_law_states"] (sp_byt68 K) := ⟨_, _, ok__law_by_table (P := l.prog) (w := w) (base := base) (n := 5) F31 B   (C30.mono (by decide))   , b31, k31, PySem.W.mg_of X G a31⟩
  have C32 : Callee l.prog w K mg base 5 "then" ["one", "other"] (sp_then K) := ⟨_, _, ok_then (P := l.prog) (w := w) (base := base) (n := 4) F32 B   (C3.mono (by decide)) (C29.mono (by decide))   , b32, k32, PySem.W.mg_of X G a32⟩
  have C33 : Callee l.prog w K mg base 6 "words" ["deeds"] (sp_words69 K) := ⟨_, _, ok_words (P := l.prog) (w := w) (base := base) (n := 5) F33 B   (C24.mono (by decide))   , b33, k33, PySem.W.mg_of X G a33⟩
  have C34 : Callee l.prog w K mg base 6 "_law_made" ["_law_deeds", "_law_word"] (sp_made68 K) := ⟨_, _, ok__law_made (P := l.prog) (w := w) (base := base) (n := 5) F34 B   (C32.mono (by decide))   , b34, k34, PySem.W.mg_of X G a34⟩
  have C35 : Callee l.prog w K mg base 2 "_law_deed" ["_law_store_here", "_law_states"] (sp_deed68 K) := ⟨_, _, ok__law_deed (P := l.prog) (w := w) (base := base) (n := 1) F35 B   (C27.mono (by decide))   , b35, k35, PySem.W.mg_of X G a35⟩
  have C36 : Callee l.prog w K mg base 45 "_law_right" ["_law_store_here"] (sp_right22 K) := ⟨_, _, ok__law_right (P := l.prog) (w := w) (base := base) (n := 44) F36 B   (C14.mono (by decide)) (C22.mono (by decide)) (C26.mono (by decide)) (C27.mono (by decide)) (C28.mono (by decide)) (C31.mono (by decide)) (C32.mono (by decide)) (C33.mono (by decide)) (C34.mono (by decide)) (C25.mono (by decide)) (C35.mono (by decide)) (PySem.W.mg_none_of X G ga_zip)  , b36, k36, PySem.W.mg_of X G a36⟩
  have C37 : Callee l.prog w K mg base 1 "_law_store" ["_law_script", "_law_k"] (sp_pot K) := ⟨_, _, ok__law_store (P := l.prog) (w := w) (base := base) (n := 0) F37 B      , b37, k37, PySem.W.mg_of X G a37⟩
  exact ok_law (P := l.prog) (w := w) (base := base) (n := 45) F38 B   (C36.mono (by decide)) (C37.mono (by decide))   
theorem walk {l : PySem.W.OpenLaw} {q : Program} {loose : List Str} {XP : (Str → Option Value) → Heap → Prop} {YP : World → Heap → Prop} {d : DefRec} {K : Params → PySem.W.Frag} (hn : l.most = some 63) (hdf : d.params.defaults = [])
    (hY : ∀ (w : World) (h : Heap), YP w h → (K w.params).In h)
    (F : ∀ (w : World) (mg : Str → Option Value) (fa : Addr) (h : Heap), (K w.params).In h → h.Ns mainGlobals mg → mg d.name = some (.ref fa) →
      ∃ fd : FuncData, (∀ (s : Shared) (u : Value), BindsTo s fd ⟨[u], []⟩ [("_law_script", u)]) ∧ ∀ base : Heap, (K w.params).In base → base.Ns mainGlobals mg → FnOk l.prog w (K w.params) mg base CX0 46 fa fd ["_law_script"] (sp_law (K w.params))) :
    PySem.W.WalkO q loose XP YP l.row.toRowW d [] (fun f vs => PySem.call f vs) :=
  L2.walk_of (n := 63) (k := 46) (x := "_law_script") (CX := fun _ => CX0) (sp := fun w => sp_law (K w.params)) hn (by decide) hdf ⟨rfl, by decide, by decide, rfl⟩ hY F (fun _ _ a ns hl hO hS => ⟨_, rfl, a, ns, rfl, Scr.of hO hS, hl, fun _ => rfl⟩) fun _ _ _ _ _ z => z
theorem walkX {q : Program} {loose : List Str} {XP : (Str → Option Value) → Heap → Prop} {K : Params → PySem.W.Frag} {as : List Addr} {n t : Nat} {r : PySem.W.RowW} {d : DefRec} {kwd : List (Str × Expr)} {run : Value → List Value → Sem Value}
    (e : ∀ P, as = (K P).map (·.1)) (W : PySem.W.WalkO q loose XP (PySem.W.InK K) r d kwd run) : PySem.W.WalkX q loose XP (PySem.W.X.obsZ as) (PySem.W.X.valZ K n t) r d kwd run :=
  fun w s₀ s₁ mg mb G Y a o pm cd doc dV kV h2 h3 h4 h5 h6 h7 args vals as' L hpre hlay hrd hwl hlo =>
    W w s₀ s₁ mg mb G (PySem.W.InK.keeps w s₀.heap s₁.heap (PySem.W.X.z_facts e Y).2.1 L.keeps) a o pm cd doc dV kV h2 h3 h4 h5 h6 h7 args vals as' hpre hlay hrd hwl hlo
end My
open PySem PySem.W PyProof.Rows
def PySem.W.Fast.tw2859013945562035218 : Unit := ()
def PySem.W.Fast.tw13586122324502381806 : Unit := ()
def PySem.W.Fast.tw13819935738523306796 : Unit := ()
def PySem.W.Fast.tw16622018493311302770 : Unit := ()
def PySem.W.Fast.tw8875671718745914824 : Unit := ()
def PySem.W.Fast.tw15931943455051002551 : Unit := ()
def PySem.W.Fast.tw4868235033104861992 : Unit := ()
def PySem.W.Fast.tw3592961559038598648 : Unit := ()
def PySem.W.Fast.tw3980084583741385641 : Unit := ()
def PySem.W.Fast.tw17041945751859280916 : Unit := ()
def PySem.W.Fast.tw8126218393880278150 : Unit := ()
def PySem.W.Fast.tw143540244370513220 : Unit := ()
def PySem.W.Fast.tw1357210862856371261 : Unit := ()
def PySem.W.Fast.tw12028694633381669777 : Unit := ()
def PySem.W.Fast.tw7762508243653545964 : Unit := ()
def PySem.W.Fast.tw2311631331889962016 : Unit := ()
def PySem.W.Fast.tw5173674140920615837 : Unit := ()
def PySem.W.Fast.tw17927275364119787707 : Unit := ()
def PySem.W.Fast.tw7167098729062120009 : Unit := ()
def PySem.W.Fast.tw8495479711299749246 : Unit := ()
def PySem.W.Fast.tw17626088743899815573 : Unit := ()
def PySem.W.Fast.tw13014720647939310990 : Unit := ()
def PySem.W.Fast.tw353221162228566448 : Unit := ()
def PySem.W.Fast.tw1706736664413671843 : Unit := ()
def PySem.W.Fast.tw17724474305386504134 : Unit := ()
def PySem.W.Fast.tw15154851043005639299 : Unit := ()
def PySem.W.Fast.tw5782075151550104987 : Unit := ()
def PySem.W.Fast.tw6512075673223859462 : Unit := ()
def PySem.W.Fast.tw5855414659254047975 : Unit := ()
def PySem.W.Fast.tw5514656888531639758 : Unit := ()
def PySem.W.Fast.tw6401944461114941196 : Unit := ()
def PySem.W.Fast.tw13315426765649024382 : Unit := ()
def PySem.W.Fast.tw3564902840048281876 : Unit := ()
def PySem.W.Fast.tw4167310242744690231 : Unit := ()
def PySem.W.Fast.tw15146339245776754339 : Unit := ()
def PySem.W.Fast.tw3433789016356986562 : Unit := ()
def PySem.W.Fast.tw13919296837049477354 : Unit := ()
def PySem.W.Fast.tw17647981580241639638 : Unit := ()
def PySem.W.Fast.tw3487203305978487270 : Unit := ()
def PySem.W.Fast.tw14867708809743492229 : Unit := ()
def PySem.W.Fast.tw9704237735951533712 : Unit := ()
def PySem.W.Fast.tw12195763001786190344 : Unit := ()
def PySem.W.Fast.tw15735106714855651407 : Unit := ()
def PySem.W.Fast.tw3250024252694821617 : Unit := ()
def PySem.W.Fast.tw6216412056308266243 : Unit := ()
def PySem.W.Fast.tw17814788172373334403 : Unit := ()
def PySem.W.Fast.tw10051245284600443363 : Unit := ()
def PySem.W.Fast.tw6839242501774990907 : Unit := ()
def PySem.W.Fast.tw455935693257723345 : Unit := ()
def PySem.W.Fast.tw2651325432961203729 : Unit := ()
def PySem.W.Fast.tw4052305457713976047 : Unit := ()
def PySem.W.Fast.tw6749639390954665942 : Unit := ()
def PySem.W.Fast.tw3637224695951102559 : Unit := ()
def PySem.W.Fast.tw6390983370359205867 : Unit := ()
def PySem.W.Fast.tw5313770445674107681 : Unit := ()
def PySem.W.Fast.tw9284335519962817033 : Unit := ()
def PySem.W.Fast.tw17818859849531297452 : Unit := ()
def PySem.W.Fast.tw7121260497998928958 : Unit := ()
def PySem.W.Fast.tw9240325561556676044 : Unit := ()
def PySem.W.Fast.tw7960705684023676326 : Unit := ()
def PySem.W.Fast.tw7877296688086884722 : Unit := ()
def PySem.W.Fast.tw18123339425834235873 : Unit := ()
def PySem.W.Fast.tw3458106740858112404 : Unit := ()
def PySem.W.Fast.tw9756590888974771774 : Unit := ()
def PySem.W.Fast.tw17196752507734762762 : Unit := ()
def PySem.W.Fast.tw15489405653004217328 : Unit := ()
def PySem.W.Fast.tw1881710809720089762 : Unit := ()
def PySem.W.Fast.tw1163406346830575751 : Unit := ()
def PySem.W.Fast.tw11322299148509574561 : Unit := ()
def PySem.W.Fast.tw13093993656050723813 : Unit := ()
def PySem.W.Fast.tw10863668820323199185 : Unit := ()
def PySem.W.Fast.tw13239852773855802710 : Unit := ()
def PySem.W.Fast.tw17104237642250075689 : Unit := ()
def PySem.W.Fast.tw7784369477804258245 : Unit := ()
def PySem.W.Fast.tw10311097031757404301 : Unit := ()
def PySem.W.Fast.tw9297027040404436024 : Unit := ()
def PySem.W.Fast.tw14001238454828692249 : Unit := ()
def PySem.W.Fast.tw5596818758303026887 : Unit := ()
def PySem.W.Fast.tw11182291257960056355 : Unit := ()
def PySem.W.Fast.tw14375477602658654301 : Unit := ()
def PySem.W.Fast.tw15533371427915970742 : Unit := ()
def PySem.W.Fast.tw9143050684012615164 : Unit := ()
def PySem.W.Fast.tw3165369117843812476 : Unit := ()
def PySem.W.Fast.tw8828136368906789008 : Unit := ()
def PySem.W.Fast.tw18077972027592334607 : Unit := ()
def PySem.W.Fast.tw8816342693665345419 : Unit := ()
def PySem.W.Fast.tw14640329239943529831 : Unit := ()
def PySem.W.Fast.tw2566531201029657250 : Unit := ()
def PySem.W.Fast.tw6157161205646151983 : Unit := ()
def PySem.W.Fast.tw1260387554380941642 : Unit := ()
def PySem.W.Fast.tw14043964830478193621 : Unit := ()
def PySem.W.Fast.tw15153021287865115681 : Unit := ()
def PySem.W.Fast.tw5274126908186131827 : Unit := ()
def PySem.W.Fast.tw5980964151272299285 : Unit := ()
def PySem.W.Fast.tw6895529227161623153 : Unit := ()
def PySem.W.Fast.tw3945306813067638568 : Unit := ()
def PySem.W.Fast.tw2105219413813601807 : Unit := ()
def PySem.W.Fast.tw8077441495890167377 : Unit := ()
def PySem.W.Fast.tw5496251722578198911 : Unit := ()
def PySem.W.Fast.tw11620858956512167682 : Unit := ()
def PySem.W.Fast.tw11222917715021334485 : Unit := ()
def PySem.W.Fast.tw18195594154883597978 : Unit := ()
def PySem.W.Fast.tw3792965043030078107 : Unit := ()
def PySem.W.Fast.tw12563329871348356602 : Unit := ()
def PySem.W.Fast.tw14325161927810030338 : Unit := ()
def PySem.W.Fast.tw8843663878108095379 : Unit := ()
def PySem.W.Fast.tw2548062142043827774 : Unit := ()
def PySem.W.Fast.tw13183461378316536834 : Unit := ()
def PySem.W.Fast.tw13658199075269160304 : Unit := ()
def PySem.W.Fast.tw3019044280271400517 : Unit := ()
def PySem.W.Fast.tw17699976180243864506 : Unit := ()
def PySem.W.Fast.tw4239359164308184148 : Unit := ()
def PySem.W.Fast.tw11346247988365670434 : Unit := ()
def PySem.W.Fast.tw2117633601393324491 : Unit := ()
def PySem.W.Fast.tw11924878685874312404 : Unit := ()
def PySem.W.Fast.tw9737131318084612315 : Unit := ()
def PySem.W.Fast.tw2129045643527746561 : Unit := ()
def PySem.W.Fast.tw17397316791452796387 : Unit := ()
def PySem.W.Fast.tw12585726402614428582 : Unit := ()
def PySem.W.Fast.tw11638757770657406830 : Unit := ()
def PySem.W.Fast.tw279356531223721536 : Unit := ()
def PySem.W.Fast.tw16479654175393105296 : Unit := ()
def PySem.W.Fast.tw17213009376758602589 : Unit := ()
def PySem.W.Fast.tw6485655611136173071 : Unit := ()
def PySem.W.Fast.tw6748349470444614850 : Unit := ()
def PySem.W.Fast.tw8624898475551348701 : Unit := ()
def PySem.W.Fast.tw17450819053691406629 : Unit := ()
def PySem.W.Fast.tw17992147216022825081 : Unit := ()
def PySem.W.Fast.tw4554050107221830759 : Unit := ()
def PySem.W.Fast.tw13875565933759627579 : Unit := ()
def PySem.W.Fast.tw14561233362327214469 : Unit := ()
def PySem.W.Fast.tw13906766473361546580 : Unit := ()
def PySem.W.Fast.tw795836098530240740 : Unit := ()
def PySem.W.Fast.tw4556968109843349939 : Unit := ()
def PySem.W.Fast.tw16121860108289192784 : Unit := ()
def PySem.W.Fast.tw10085345011774782211 : Unit := ()
def PySem.W.Fast.tw4554501668334372147 : Unit := ()
def PySem.W.Fast.tw12877247585312385643 : Unit := ()
def PySem.W.Fast.tw4171288008960031144 : Unit := ()
def PySem.W.Fast.tw7936812686342027262 : Unit := ()
def PySem.W.Fast.tw15369402397656364191 : Unit := ()
def PySem.W.Fast.tw758743711135658046 : Unit := ()
def PySem.W.Fast.tw248345334951544026 : Unit := ()
def PySem.W.Fast.tw14151820487992524114 : Unit := ()
def PySem.W.Fast.tw10319557187450970467 : Unit := ()
def PySem.W.Fast.tw4818168724255528678 : Unit := ()
def PySem.W.Fast.tw9639203489459165142 : Unit := ()
def PySem.W.Fast.tw9286503302462165819 : Unit := ()
def PySem.W.Fast.tw2223432977064727069 : Unit := ()
def PySem.W.Fast.tw11932936010803647093 : Unit := ()
def PySem.W.Fast.tw10538021667728490173 : Unit := ()
def PySem.W.Fast.tw17606389998910514079 : Unit := ()
def PySem.W.Fast.tw12007717153888836913 : Unit := ()
def PySem.W.Fast.tw710569791201021942 : Unit := ()
def PySem.W.Fast.tw10535160048549568343 : Unit := ()
def PySem.W.Fast.tw17571455209531952219 : Unit := ()
def PySem.W.Fast.tw7928567198863330853 : Unit := ()
def PySem.W.Fast.tw996601998078467922 : Unit := ()
def PySem.W.Fast.tw8459962859572928767 : Unit := ()
def PySem.W.Fast.tw151869143800947543 : Unit := ()
def PySem.W.Fast.tw11549124777758208859 : Unit := ()
def PySem.W.Fast.tw9235898729180109865 : Unit := ()
def PySem.W.Fast.tw12094835137008855143 : Unit := ()
set_option maxRecDepth 100000 in
set_option maxHeartbeats 0 in
theorem PySem.Challenge.cw_joinedasks_k68_whole_clamped_adds_holds : PySem.Challenge.rw_joinedasks_k68_whole_clamped_adds.Holds := by
  w_on; o_law; z_head; (case hw => w_witness2)
  refine My.walkX (fun _ => by kernel_rfl) (My.walk (l := PySem.Challenge.rw_joinedasks_k68_whole_clamped_adds) rfl rfl (fun w h Y => Y) ?F)
  case F =>
    intro w mg fa h KX G hmg
    refine' My.all_mk KX G hmg       ?a1 ?l1 ?c1 ?k1 ?a2 ?l2 ?c2 ?k2 ?a3 ?l3 ?c3 ?k3 ?a4 ?l4 ?c4 ?k4 ?a5 ?l5 ?c5 ?k5 ?a6 ?l6 ?c6 ?k6 ?a7 ?l7 ?c7 ?k7 ?a8 ?l8 ?c8 ?k8 ?a9 ?l9 ?c9 ?k9 ?a10 ?l10 ?c10 ?k10 ?a11 ?l11 ?c11 ?k11 ?a12 ?l12 ?c12 ?k12 ?a13 ?l13 ?c13 ?k13 ?a14 ?l14 ?c14 ?k14 ?a15 ?l15 ?c15 ?k15 ?a16 ?l16 ?c16 ?k16 ?a17 ?l17 ?c17 ?k17 ?a18 ?l18 ?c18 ?k18 ?a19 ?l19 ?c19 ?k19 ?a20 ?l20 ?c20 ?k20 ?a21 ?l21 ?c21 ?k21 ?a22 ?l22 ?c22 ?k22 ?a23 ?l23 ?c23 ?k23 ?a24 ?l24 ?c24 ?k24 ?a25 ?l25 ?c25 ?k25 ?a26 ?l26 ?c26 ?k26 ?a27 ?l27 ?c27 ?k27 ?a28 ?l28 ?c28 ?k28 ?a29 ?l29 ?c29 ?k29 ?a30 ?l30 ?c30 ?k30 ?a31 ?l31 ?c31 ?k31 ?a32 ?l32 ?c32 ?k32 ?a33 ?l33 ?c33 ?k33 ?a34 ?l34 ?c34 ?k34 ?a35 ?l35 ?c35 ?k35 ?a36 ?l36 ?c36 ?k36 ?a37 ?l37 ?c37 ?k37 ?a38 ?l38 ?c38 ?k38 ?ga_MOST_DEEDS ?ga_MOST_GIVEN ?ga_MOST_IN_FAMILY ?ga_MOST_STATES ?ga_enumerate ?ga_zip ?z_abs ?z_len ?z_max ?z_min ?z_divmod ?z_repr ?z_isinstance ?z_all ?z_range ?z_int ?z_bool ?z_str ?z_tuple ?z_list ?z_dict
    (case a1 => k_is); (case l1 => k_is); (case c1 => k_is); (case k1 => k_is)
    (case a2 => k_is); (case l2 => k_is); (case c2 => k_is); (case k2 => k_is)
    (case a3 => k_is); (case l3 => k_is); (case c3 => k_is); (case k3 => k_is)
    (case a4 => k_is); (case l4 => k_is); (case c4 => k_is); (case k4 => k_is)
    (case a5 => k_is); (case l5 => k_is); (case c5 => k_is); (case k5 => k_is)
    (case a6 => k_is); (case l6 => k_is); (case c6 => k_is); (case k6 => k_is)
    (case a7 => k_is); (case l7 => k_is); (case c7 => k_is); (case k7 => k_is)
    (case a8 => k_is); (case l8 => k_is); (case c8 => k_is); (case k8 => k_is)
    (case a9 => k_is); (case l9 => k_is); (case c9 => k_is); (case k9 => k_is)
    (case a10 => k_is); (case l10 => k_is); (case c10 => k_is); (case k10 => k_is)
    (case a11 => k_is); (case l11 => k_is); (case c11 => k_is); (case k11 => k_is)
    (case a12 => k_is); (case l12 => k_is); (case c12 => k_is); (case k12 => k_is)
    (case a13 => k_is); (case l13 => k_is); (case c13 => k_is); (case k13 => k_is)
    (case a14 => k_is); (case l14 => k_is); (case c14 => k_is); (case k14 => k_is)
    (case a15 => k_is); (case l15 => k_is); (case c15 => k_is); (case k15 => k_is)
    (case a16 => k_is); (case l16 => k_is); (case c16 => k_is); (case k16 => k_is)
    (case a17 => k_is); (case l17 => k_is); (case c17 => k_is); (case k17 => k_is)
    (case a18 => k_is); (case l18 => k_is); (case c18 => k_is); (case k18 => k_is)
    (case a19 => k_is); (case l19 => k_is); (case c19 => k_is); (case k19 => k_is)
    (case a20 => k_is); (case l20 => k_is); (case c20 => k_is); (case k20 => k_is)
    (case a21 => k_is); (case l21 => k_is); (case c21 => k_is); (case k21 => k_is)
    (case a22 => k_is); (case l22 => k_is); (case c22 => k_is); (case k22 => k_is)
    (case a23 => k_is); (case l23 => k_is); (case c23 => k_is); (case k23 => k_is)
    (case a24 => k_is); (case l24 => k_is); (case c24 => k_is); (case k24 => k_is)
    (case a25 => k_is); (case l25 => k_is); (case c25 => k_is); (case k25 => k_is)
    (case a26 => k_is); (case l26 => k_is); (case c26 => k_is); (case k26 => k_is)
    (case a27 => k_is); (case l27 => k_is); (case c27 => k_is); (case k27 => k_is)
    (case a28 => k_is); (case l28 => k_is); (case c28 => k_is); (case k28 => k_is)
    (case a29 => k_is); (case l29 => k_is); (case c29 => k_is); (case k29 => k_is)
    (case a30 => k_is); (case l30 => k_is); (case c30 => k_is); (case k30 => k_is)
    (case a31 => k_is); (case l31 => k_is); (case c31 => k_is); (case k31 => k_is)
    (case a32 => k_is); (case l32 => k_is); (case c32 => k_is); (case k32 => k_is)
    (case a33 => k_is); (case l33 => k_is); (case c33 => k_is); (case k33 => k_is)
    (case a34 => k_is); (case l34 => k_is); (case c34 => k_is); (case k34 => k_is)
    (case a35 => k_is); (case l35 => k_is); (case c35 => k_is); (case k35 => k_is)
    (case a36 => k_is); (case l36 => k_is); (case c36 => k_is); (case k36 => k_is)
    (case a37 => k_is); (case l37 => k_is); (case c37 => k_is); (case k37 => k_is)
    (case a38 => k_is); (case l38 => k_is); (case c38 => k_is); (case k38 => k_is)
    (case ga_MOST_DEEDS => k_is)
    (case ga_MOST_GIVEN => k_is)
    (case ga_MOST_IN_FAMILY => k_is)
    (case ga_MOST_STATES => k_is)
    (case ga_enumerate => k_is)
    (case ga_zip => k_is)
    (case z_abs => k_is); (case z_len => k_is); (case z_max => k_is); (case z_min => k_is); (case z_divmod => k_is); (case z_repr => k_is); (case z_isinstance => k_is); (case z_all => k_is); (case z_range => k_is); (case z_int => k_is); (case z_bool => k_is); (case z_str => k_is); (case z_tuple => k_is); (case z_list => k_is); (case z_dict => k_is)
