import PyProof.Rows.All
import Wide.All
import OpenK.AllK
import Wide.FinOn
import Lean
import PyProof.EqAt
import PyProof.EqKinds
import PyProof.TupleCall
import PyProof.NeKinds
import PyProof.ReprRoads
import PyProof.ReprLen
import PyProof.Rows.RegStrFacts
import PyProof.Draws
import PyProof.EnumStmt
import PyProof.ZipIter
import PyProof.ListNew
import PyProof.TupleOfGen
import PyProof.ListRange
import PyProof.Rows.Range3
import PyProof.SumWalkG
import PyProof.Rows.RuleB_lshift
import PyProof.AutoSeq1
import PyProof.Cells
import PyProof.AutoListH
import PyProof.DictTable
import PyProof.RulesAs
import PyProof.NsDelKeeps
import KE.KDictList
import PyProof.DictCompW
import PyProof.DictItems
import PyProof.Rows.SetFrom
import PyProof.SetRoads
import PyProof.IsiH_list
import PyProof.AttrMiss
import KE.KDictOf
import KE.KSortTup
import PyProof.DictWalks
import PySem.Challenge.RW_joinedasks_k43_whole_unlike_answers
set_option Elab.async false
set_option linter.all false
set_option maxRecDepth 100000
namespace L2
open PySem PySem.Spec PyProof.Rows

abbrev Key := Sum Int Str
def keyIs : Key → Value → Bool
  | .inl k, v => Value.isInt k v
  | .inr x, v => Value.isStrOf x v
def keyH (w : World) : Key → Int
  | .inl k => hashInt k
  | .inr x => hashStr w x
theorem keyIs_shape : ∀ {k : Key} {v : Value}, keyIs k v = true → (∃ i t, k = Sum.inl i ∧ v = Value.int i t) ∨ (∃ x t, k = Sum.inr x ∧ v = Value.str x t)
  | .inl i, v, h => by
    obtain ⟨t, e⟩ := Value.isInt_shape (k := i) (v := v) h
    exact .inl ⟨i, t, rfl, e⟩
  | .inr x, v, h => by
    obtain ⟨t, e⟩ := Value.isStrOf_shape (x := x) (v := v) h
    exact .inr ⟨x, t, rfl, e⟩
theorem keyIs_int (i : Int) (t : Tok) : keyIs (.inl i) (.int i t) = true := by simp [keyIs, Value.isInt]
theorem keyIs_str (x : Str) (t : Tok) : keyIs (.inr x) (.str x t) = true := by simp [keyIs, Value.isStrOf]
theorem key_ll (a b : Int) : decide ((Sum.inl a : Key) = Sum.inl b) = (a == b) := by
  by_cases e : a = b
  · subst e; simp
  · have h : ¬ (Sum.inl a : Key) = Sum.inl b := fun q => e (Sum.inl.inj q)
    rw [decide_eq_false h]
    exact (beq_eq_false_iff_ne.mpr e).symm
theorem key_rr (a b : Str) : decide ((Sum.inr a : Key) = Sum.inr b) = decide (a = b) := by
  by_cases e : a = b
  · subst e; simp
  · have h : ¬ (Sum.inr a : Key) = Sum.inr b := fun q => e (Sum.inr.inj q)
    rw [decide_eq_false h, decide_eq_false e]
theorem key_lr (a : Int) (b : Str) : decide ((Sum.inl a : Key) = Sum.inr b) = false := decide_eq_false (fun q => nomatch q)
theorem key_rl (a : Str) (b : Int) : decide ((Sum.inr a : Key) = Sum.inl b) = false := decide_eq_false (fun q => nomatch q)

def mixKind (prog : Program) (w : World) : PySem.KeyKind prog w Key where
  is := keyIs
  hash := keyH w
  inj := fun v a b ha hb => by
    rcases keyIs_shape ha with ⟨i, t, rfl, rfl⟩ | ⟨x, t, rfl, rfl⟩
    · rcases keyIs_shape hb with ⟨j, u, rfl, e⟩ | ⟨y, u, rfl, e⟩
      · injection e with e1 _; rw [e1]
      · exact nomatch e
    · rcases keyIs_shape hb with ⟨j, u, rfl, e⟩ | ⟨y, u, rfl, e⟩
      · exact nomatch e
      · injection e with e1 _; rw [e1]
  byValue := fun k v h => by
    rcases keyIs_shape h with ⟨i, t, rfl, rfl⟩ | ⟨x, t, rfl, rfl⟩ <;> rfl
  pyHash := fun hv h => by
    rcases keyIs_shape hv with ⟨i, t, rfl, rfl⟩ | ⟨x, t, rfl, rfl⟩
    · exact wpAny_pyHash_int h
    · exact wpAny_pyHash_str h
  eqBool := fun hu hv h => by
    rcases keyIs_shape hu with ⟨i, t, rfl, rfl⟩ | ⟨x, t, rfl, rfl⟩
    · rcases keyIs_shape hv with ⟨j, u, rfl, rfl⟩ | ⟨y, u, rfl, rfl⟩
      · rw [key_ll] at h; exact wpAny_eqBool_int h
      · rw [key_lr] at h; exact SeqAt.EqAt.int_str i t y u _ _ _ _ h
    · rcases keyIs_shape hv with ⟨j, u, rfl, rfl⟩ | ⟨y, u, rfl, rfl⟩
      · rw [key_rl] at h; exact SeqAt.EqAt.str_int x t j u _ _ _ _ h
      · rw [key_rr] at h; exact wpAny_eqBool_str h
  «strs» := fun k x t v h => by
    rcases keyIs_shape h with ⟨i, u, rfl, e⟩ | ⟨y, u, rfl, e⟩
    · exact nomatch e
    · injection e with e1 _
      subst e1
      cases v <;> rfl

theorem mixKind_int (prog : Program) (w : World) (i : Int) (t : Tok) : (mixKind prog w).is (.inl i) (.int i t) = true := keyIs_int i t
theorem mixKind_str (prog : Program) (w : World) (x : Str) (t : Tok) : (mixKind prog w).is (.inr x) (.str x t) = true := keyIs_str x t
end L2

namespace L2
open PySem PySem.Spec PyProof.Rows

inductive V where
  | non | bl (b : Bool) | int (i : Int) | str (x : Str) | byt (b : Array UInt8) | flt (b : UInt64) | ref (a : Addr) | ty (n : String)
  deriving DecidableEq

def RelV : V → Value → Prop
  | .non, u => u = Value.none
  | .bl b, u => u = Value.bool b
  | .int i, u => ∃ t, u = Value.int i t
  | .str x, u => ∃ t, u = Value.str x t
  | .byt b, u => ∃ t, u = Value.bytes b t
  | .flt b, u => ∃ t, u = Value.float b t
  | .ref a, u => u = Value.ref a
  | .ty n, u => u = Value.type n

abbrev Vals : List V → List Value → Prop := Paired RelV
theorem Vals.length {xs : List V} {us : List Value} (r : Vals xs us) : xs.length = us.length := Paired.length r
theorem Vals.get : ∀ {xs : List V} {us : List Value} {i : Nat} {x : V}, Vals xs us → xs[i]? = some x → ∃ u, us[i]? = some u ∧ RelV x u
  | _, _, _, _, .nil, e => by simp at e
  | _, _, 0, _, .cons r _, e => by simp at e; subst e; exact ⟨_, rfl, r⟩
  | _, _, i + 1, x, .cons _ t, e => by
    obtain ⟨u, h1, h2⟩ := Vals.get (i := i) (x := x) t (by simpa using e)
    exact ⟨u, by simpa using h1, h2⟩
theorem Vals.set {x : V} {u : Value} (r : RelV x u) : ∀ {xs : List V} {us : List Value} (i : Nat), Vals xs us → Vals (xs.set i x) (us.set i u)
  | _, _, _, .nil => .nil
  | _, _, 0, .cons _ t => .cons r t
  | _, _, i + 1, .cons q t => .cons q (Vals.set r i t)
theorem Vals.append : ∀ {xs ys : List V} {us ws : List Value}, Vals xs us → Vals ys ws → Vals (xs ++ ys) (us ++ ws)
  | _, _, _, _, .nil, s => s
  | _, _, _, _, .cons r t, s => .cons r (Vals.append t s)
theorem Vals.take : ∀ {xs : List V} {us : List Value} (n : Nat), Vals xs us → Vals (xs.take n) (us.take n)
  | _, _, 0, _ => .nil
  | _, _, _ + 1, .nil => .nil
  | _, _, n + 1, .cons r t => .cons r (Vals.take n t)
theorem Vals.drop : ∀ {xs : List V} {us : List Value} (n : Nat), Vals xs us → Vals (xs.drop n) (us.drop n)
  | _, _, 0, r => r
  | _, _, _ + 1, .nil => .nil
  | _, _, n + 1, .cons _ t => Vals.drop n t

def RelO : Option V → Option Value → Prop
  | some v, some u => RelV v u
  | none, none => True
  | _, _ => False
def KV {κ : Type} : List (κ × V) → List (κ × Value) → Prop := Paired fun (p : κ × V) (q : κ × Value) => p.1 = q.1 ∧ RelV p.2 q.2

def kV : Key → V
  | .inl i => .int i
  | .inr x => .str x

inductive HO where
  /-- a list -/
  | lst (xs : List V)
  /-- a tuple (never changes) -/
  | tup (xs : List V)
  /-- a dict whose keys are ints and texts; one whose keys are tuples of ints and texts (the empty one is both) -/
  | dK (kvs : List (Key × V)) | dT (kvs : List (List Key × V))
  /-- a set of ints: its members, its size -/
  | set (S : Int → Bool) (n : Nat)
  /-- an instance of the class at C, its dict at dx, its attributes -/
  | ins (C dx : Addr) (fs : List (Str × V))
  /-- the dict of the instance at x -/
  | own (x : Addr)
  /-- the dict of an exception -/
  | xd (fs : List (Str × V))
  /-- a bound method, f of x -/
  | met (f x : Addr)
  /-- a range object lo, lo + 1, .. below hi -/
  | rng (lo hi : Int)
  /-- a thing that is known to the object (the script; a dict while a loop walks it): read, never written while it is so -/
  | frz (o : Obj) (u : HO)
  /-- a code object's table -/
  | tbl (ps : Array Value)
  /-- any other thing, by what is true of its one object (a def of one's own: SetO a S n := HO.ext fun h => ..) -/
  | ext (φ : Heap → Prop)

abbrev Hp := Addr → Option HO
def upd (H : Hp) (a : Addr) (o : HO) : Hp := fun b => if b = a then some o else H b
theorem upd_same {H : Hp} {a : Addr} {o : HO} : upd H a o a = some o := by unfold upd; rw [if_pos rfl]
theorem upd_ne {H : Hp} {a b : Addr} {o : HO} (h : b ≠ a) : upd H a o b = H b := by unfold upd; rw [if_neg h]
theorem ne_of {H : Hp} {a b : Addr} {o u : HO} (h : H a = some o) (h' : H b = some u) (d : o ≠ u) : a ≠ b := by
  intro e; subst e; rw [h] at h'; exact d (Option.some.inj h')
theorem ne_of_none {H : Hp} {a b : Addr} {o : HO} (h : H a = some o) (h' : H b = none) : a ≠ b := by
  intro e; subst e; rw [h] at h'; cases h'

section
variable (P : Program) (w : World)
def ObjOk (H : Hp) (h : Heap) (a : Addr) : HO → Prop
  | .lst xs => xs.length ≤ sizeLine ∧ ∃ (its : List Value) (n : Nat), Vals xs its ∧ h.get? a = some { cls := .type "list", data := .seq its.toArray n }
  | .tup xs => xs.length ≤ sizeLine ∧ ∃ its : List Value, Vals xs its ∧ IsTup h a its.toArray
  | .dK kvs => kvs.length ≤ sizeLine ∧ (a == sysModules) = false ∧ ∃ vs, KV kvs vs ∧ h.DictOf (mixKind P w) a vs
  | .dT kvs => kvs.length ≤ sizeLine ∧ (a == sysModules) = false ∧ ∃ xs : List (List Key × Addr × Value),
      Paired (fun (p : List Key × V) (q : List Key × Addr × Value) => p.1 = q.1 ∧ H q.2.1 = some (.tup (p.1.map kV)) ∧ RelV p.2 q.2.2) kvs xs ∧
      ∃ o es ep, h.get? a = some o ∧ o.ExactDict ∧ o.data = .dict es ep ∧ es.toList = xs.map (entryOfKey (tupleKind (mixKind P w))) ∧ (xs.map (·.1)).Nodup
  | .set S n => h.SetOf (intKind P w) a S n
  | .ins C dx fs => H dx = some (.own a) ∧ fs.length ≤ 1000 ∧ dx ≠ a ∧ h.get? a = some (PySem.W.instObj C dx) ∧
      ∃ mA, h.Ns1 dx mA ∧ (∀ f, RelO (fs.lookup f) (mA f)) ∧ PySem.Within mA (fs.map (·.1))
  | .own _ => ∃ o, h.get? a = some o
  | .xd fs => ∃ mA, h.Ns1 a mA ∧ ∀ f, RelO (fs.lookup f) (mA f)
  | .rng lo hi => ∃ t u v, h.get? a = some { cls := .type "range", data := .fields #[.int lo t, .int hi u, .int 1 v] }
  | .frz o u => h.get? a = some o ∧ ObjOk H h a u
  | .tbl ps => h.get? a = some { cls := .none, data := .fields ps }
  | .met f x => h.get? a = some (PySem.W.methodObj (.ref f) (.ref x))
  | .ext φ => φ h ∧ (∃ o, h.get? a = some o) ∧ ∀ h1 h2 : Heap, φ h1 → (∀ o, h1.get? a = some o → h2.get? a = some o) → φ h2
def HOk (H : Hp) (h : Heap) : Prop := ∀ a o, H a = some o → ObjOk P w H h a o
end

section
variable {P : Program} {w : World} {H H' : Hp} {h h' : Heap} {a : Addr} {o : HO}
theorem ObjOk.lt (x : ObjOk P w H h a o) : a < h.objs.size := by
  cases o with
  | lst xs => obtain ⟨_, _, _, _, e⟩ := x; exact Heap.lt_size e
  | tup xs => obtain ⟨_, _, _, p⟩ := x; exact p.lt
  | dK kvs => obtain ⟨_, _, _, _, o, _, _, e, _⟩ := x; exact Heap.lt_size e
  | dT kvs => obtain ⟨_, _, _, _, o, _, _, e, _⟩ := x; exact Heap.lt_size e
  | set S n => obtain ⟨o, _, _, _, e, _⟩ := x; exact Heap.lt_size e
  | ins C dx fs => obtain ⟨_, _, _, e, _⟩ := x; exact Heap.lt_size e
  | own y => obtain ⟨_, e⟩ := x; exact Heap.lt_size e
  | xd fs => obtain ⟨_, ⟨_, _, _, e, _⟩, _⟩ := x; exact Heap.lt_size e
  | rng lo hi => obtain ⟨_, _, _, e⟩ := x; exact Heap.lt_size e
  | frz ob u => obtain ⟨e, _⟩ := x; exact Heap.lt_size e
  | tbl ps => exact Heap.lt_size (show h.get? a = some _ from x)
  | met f y => exact Heap.lt_size (show h.get? a = some _ from x)
  | ext φ => obtain ⟨_, ⟨_, e⟩, _⟩ := x; exact Heap.lt_size e
theorem Paired.mapP {α β : Type} {F G : α → β → Prop} : ∀ {l₁ : List α} {l₂ : List β}, Paired F l₁ l₂ → (∀ a b, F a b → G a b) → Paired G l₁ l₂
  | _, _, .nil, _ => .nil
  | _, _, .cons r t, f => .cons (f _ _ r) (Paired.mapP t f)
theorem ObjOk.stay (x : ObjOk P w H h a o) (k : ∀ b u, (b = a ∨ H b = some (.own a)) → h.get? b = some u → h'.get? b = some u)
    (ho : ∀ b, H b = some (.own a) → H' b = some (.own a)) (ht : ∀ b xs, H b = some (.tup xs) → H' b = some (.tup xs)) : ObjOk P w H' h' a o := by
  induction o with
  | lst xs => obtain ⟨z, its, n, r, e⟩ := x; exact ⟨z, its, n, r, k _ _ (.inl rfl) e⟩
  | tup xs => obtain ⟨z, its, r, ob, e, c⟩ := x; exact ⟨z, its, r, ob, k _ _ (.inl rfl) e, c⟩
  | dK kvs => obtain ⟨z, y, vs, r, ob, es, ep, e, c⟩ := x; exact ⟨z, y, vs, r, ob, es, ep, k _ _ (.inl rfl) e, c⟩
  | dT kvs =>
    obtain ⟨z, y, xs, r, ob, es, ep, e, c⟩ := x
    exact ⟨z, y, xs, Paired.mapP r fun p q z => ⟨z.1, ht _ _ z.2.1, z.2.2⟩, ob, es, ep, k _ _ (.inl rfl) e, c⟩
  | set S n => obtain ⟨ob, es, ep, t, e, c⟩ := x; exact ⟨ob, es, ep, t, k _ _ (.inl rfl) e, c⟩
  | ins C dx fs =>
    obtain ⟨d, z, ne, e, mA, ⟨od, es, ep, e2, c⟩, r⟩ := x
    exact ⟨ho _ d, z, ne, k _ _ (.inl rfl) e, mA, ⟨od, es, ep, k _ _ (.inr d) e2, c⟩, r⟩
  | own y => obtain ⟨ob, e⟩ := x; exact ⟨ob, k _ _ (.inl rfl) e⟩
  | xd fs => obtain ⟨mA, ⟨od, es, ep, e, c⟩, r⟩ := x; exact ⟨mA, ⟨od, es, ep, k _ _ (.inl rfl) e, c⟩, r⟩
  | rng lo hi => obtain ⟨t, u, v, e⟩ := x; exact ⟨t, u, v, k _ _ (.inl rfl) e⟩
  | frz ob u ih => obtain ⟨e, q⟩ := x; exact ⟨k _ _ (.inl rfl) e, ih q⟩
  | tbl ps =>
    have e : h.get? a = some { cls := .none, data := .fields ps } := x
    show h'.get? a = some { cls := .none, data := .fields ps }
    exact k a _ (.inl rfl) e
  | met f y =>
    have e : h.get? a = some (PySem.W.methodObj (.ref f) (.ref y)) := x
    show h'.get? a = some (PySem.W.methodObj (.ref f) (.ref y))
    exact k a _ (.inl rfl) e
  | ext φ => obtain ⟨p, ⟨o, e⟩, st⟩ := x; exact ⟨st _ _ p fun o q => k _ _ (.inl rfl) q, ⟨o, k _ _ (.inl rfl) e⟩, st⟩
theorem HOk.lt (x : HOk P w H h) (e : H a = some o) : a < h.objs.size := (x a o e).lt
theorem HOk.fresh (x : HOk P w H h) (e : h.objs.size ≤ a) : H a = none := by
  cases q : H a with
  | none => rfl
  | some u => exact absurd (Nat.lt_of_lt_of_le (x.lt q) e) (Nat.lt_irrefl _)
theorem HOk.kept (x : HOk P w H h) (k : ∀ b u, h.get? b = some u → h'.get? b = some u) : HOk P w H h' := fun a o e =>
  (x a o e).stay (fun b u _ q => k b u q) (fun _ q => q) fun _ _ q => q
theorem HOk.laid (x : HOk P w H h) (k : ∀ b u, h.get? b = some u → h'.get? b = some u) (hp : h.objs.size ≤ a) (new : ObjOk P w (upd H a o) h' a o) : HOk P w (upd H a o) h' := fun b u e => by
  have hn := x.fresh hp
  by_cases hb : b = a
  · subst hb; rw [upd_same] at e; cases e; exact new
  · rw [upd_ne hb] at e
    exact (x b u e).stay (fun c v _ q => k c v q) (fun c q => by rw [upd_ne (ne_of_none q hn)]; exact q) fun c xs q => by rw [upd_ne (ne_of_none q hn)]; exact q
end

def Rd (H : Hp) (a : Addr) (u : HO) : Prop := H a = some u ∨ ∃ o, H a = some (.frz o u)
theorem Rd.of {H : Hp} {a : Addr} {u : HO} (h : H a = some u) : Rd H a u := .inl h
theorem Rd.ok {P : Program} {w : World} {H : Hp} {h : Heap} {a : Addr} {u : HO} (r : Rd H a u) (x : HOk P w H h) : ObjOk P w H h a u := by
  rcases r with r | ⟨o, r⟩
  · exact x a u r
  · obtain ⟨_, q⟩ := x a _ r
    exact q
def Mut : Option HO → Prop
  | some (.lst _) => True
  | some (.dK _) => True
  | some (.dT _) => True
  | some (.set _ _) => True
  | some (.ins _ _ _) => True
  | some (.ext _) => True
  | _ => False
section
variable {P : Program} {w : World} {H : Hp} {h h' : Heap} {x e : Addr} {o' : HO}
theorem HOk.write (ok : HOk P w H h) (mu : Mut (H x)) (he : e = x ∨ H e = some (.own x)) (k : ∀ b u, b ≠ e → h.get? b = some u → h'.get? b = some u) (heo : ∃ u, h'.get? e = some u)
    (new : ObjOk P w (upd H x o') h' x o') : HOk P w (upd H x o') h' := fun b u q => by
  have nown : ∀ c y, H c = some (.own y) → c ≠ x := fun c y r z => by subst z; rw [r] at mu; exact mu
  have ntup : ∀ c xs, H c = some (.tup xs) → c ≠ x := fun c xs r z => by subst z; rw [r] at mu; exact mu
  by_cases hb : b = x
  · subst hb; rw [upd_same] at q; cases q; exact new
  · rw [upd_ne hb] at q
    by_cases hbe : b = e
    · have q' : H b = some (.own x) := by
        rcases he with z | z
        · exact absurd (hbe.trans z) hb
        · rw [hbe]; exact z
      rw [q] at q'; cases q'
      obtain ⟨v, hv⟩ := heo
      exact ⟨v, by rw [hbe]; exact hv⟩
    · refine (ok b u q).stay (fun c v hc r => k c v ?_ r) (fun c r => by rw [upd_ne (nown c b r)]; exact r) fun c xs r => by rw [upd_ne (ntup c xs r)]; exact r
      rcases hc with rfl | hc
      · exact hbe
      · rintro rfl
        rcases he with z | z
        · exact nown c b hc z
        · rw [hc] at z; cases z; exact hb rfl
end

structure Un (fs ex : List Addr) (H H' : Hp) (h h' : Heap) : Prop where
  keep : ∀ b o, h.get? b = some o → H b = none → b ∉ fs → b ∉ ex → h'.get? b = some o
  slot : ∀ b o, h.get? b = some o → H b = none → b ∈ fs → b ∉ ex → ∃ sl, h'.get? b = some { o with slots := sl }
  free : ∀ b o, h.get? b = some o → H b = none → b ∉ ex → H' b = none
  there : ∀ b o, h.get? b = some o → b ∉ ex → ∃ o', h'.get? b = some o'
  tups : ∀ b xs, H b = some (.tup xs) → H' b = some (.tup xs)
  frzs : ∀ b o u, H b = some (.frz o u) → H' b = some (.frz o u)
  tbls : ∀ b ps, H b = some (.tbl ps) → ∃ more, H' b = some (.tbl (ps ++ more))
section
variable {fs fs' ex ex' : List Addr} {H H1 H2 : Hp} {h h1 h2 h' : Heap} {a x e : Addr} {o : HO}
theorem Un.any (u : Un fs ex H H1 h h1) {b : Addr} {ob : Obj} (q : h.get? b = some ob) (n : H b = none) (hx : b ∉ ex) : ∃ sl, h1.get? b = some { ob with slots := sl } := by
  by_cases hb : b ∈ fs
  · exact u.slot b ob q n hb hx
  · exact ⟨ob.slots, u.keep b ob q n hb hx⟩
theorem Un.trans (a : Un fs ex H H1 h h1) (b : Un fs ex H1 H2 h1 h2) : Un fs ex H H2 h h2 where
  keep := fun c ob q n hc hx => b.keep c ob (a.keep c ob q n hc hx) (a.free c ob q n hx) hc hx
  slot := fun c ob q n hc hx => by
    obtain ⟨sl, e1⟩ := a.slot c ob q n hc hx
    obtain ⟨sl', e2⟩ := b.slot c _ e1 (a.free c ob q n hx) hc hx
    exact ⟨sl', e2⟩
  free := fun c ob q n hx => by
    obtain ⟨o', e1⟩ := a.there c ob q hx
    exact b.free c o' e1 (a.free c ob q n hx) hx
  there := fun c ob q hx => by
    obtain ⟨o', e1⟩ := a.there c ob q hx
    exact b.there c o' e1 hx
  tups := fun c xs q => b.tups c xs (a.tups c xs q)
  frzs := fun c ob xs q => b.frzs c ob xs (a.frzs c ob xs q)
  tbls := fun c ps q => by
    obtain ⟨m1, e1⟩ := a.tbls c ps q
    obtain ⟨m2, e2⟩ := b.tbls c _ e1
    exact ⟨m1 ++ m2, by rw [e2, Array.append_assoc]⟩
theorem Un.kept (k : ∀ b u, h.get? b = some u → h'.get? b = some u) : Un fs ex H H h h' :=
  ⟨fun b ob q _ _ _ => k b ob q, fun b ob q _ _ _ => ⟨ob.slots, k b ob q⟩, fun _ _ _ n _ => n, fun b ob q _ => ⟨ob, k b ob q⟩, fun _ _ q => q, fun _ _ _ q => q, fun _ ps q => ⟨#[], by rw [q]; simp⟩⟩
theorem Un.refl : Un fs ex H H h h := Un.kept fun _ _ q => q
theorem Un.laid (k : ∀ b u, h.get? b = some u → h'.get? b = some u) (hp : h.objs.size ≤ a) (hn : H a = none) : Un fs ex H (upd H a o) h h' where
  keep := fun b u q _ _ _ => k b u q
  slot := fun b u q _ _ _ => ⟨u.slots, k b u q⟩
  free := fun b u q n _ => by rw [upd_ne (Nat.ne_of_lt (Nat.lt_of_lt_of_le (Heap.lt_size q) hp))]; exact n
  there := fun b u q _ => ⟨u, k b u q⟩
  tups := fun b xs q => by rw [upd_ne (ne_of_none q hn)]; exact q
  frzs := fun b u xs q => by rw [upd_ne (ne_of_none q hn)]; exact q
  tbls := fun b ps q => ⟨#[], by rw [upd_ne (ne_of_none q hn), q]; simp⟩
theorem Un.write (mu : Mut (H x)) (he : e = x ∨ H e = some (.own x)) (k : ∀ b u, b ≠ e → h.get? b = some u → h'.get? b = some u) (heo : ∃ u, h'.get? e = some u) : Un fs ex H (upd H x o) h h' := by
  have hx : ∀ b, H b = none → b ≠ x := fun b n z => by subst z; rw [n] at mu; exact mu
  have hb : ∀ b, H b = none → b ≠ e := fun b n z => by
    subst z
    rcases he with r | r
    · exact hx b n r
    · rw [n] at r; cases r
  have hm : ∀ b u, H b = some u → ¬ Mut (some u) → b ≠ x := fun b u q nm z => by subst z; rw [q] at mu; exact nm mu
  refine ⟨fun b u q n _ _ => k b u (hb b n) q, fun b u q n _ _ => ⟨u.slots, k b u (hb b n) q⟩, fun b u q n _ => by rw [upd_ne (hx b n)]; exact n, fun b u q _ => ?_,
    fun b xs q => by rw [upd_ne (hm b _ q fun z => z)]; exact q, fun b u xs q => by rw [upd_ne (hm b _ q fun z => z)]; exact q, fun b ps q => ⟨#[], by rw [upd_ne (hm b _ q fun z => z), q]; simp⟩⟩
  by_cases hbe : b = e
  · subst hbe; exact heo
  · exact ⟨u, k b u hbe q⟩
theorem Un.mono (u : Un fs ex H H1 h h1) (hs : ∀ b ∈ fs, b ∈ fs') (hx : ∀ b ∈ ex, b ∈ ex') : Un fs' ex' H H1 h h1 :=
  ⟨fun b ob q n hb he => u.keep b ob q n (fun z => hb (hs b z)) fun z => he (hx b z), fun _ _ q n _ he => u.any q n fun z => he (hx _ z), fun b ob q n he => u.free b ob q n fun z => he (hx b z), fun b ob q he => u.there b ob q fun z => he (hx b z), u.tups, u.frzs, u.tbls⟩
end

def trk (h : Heap) (H : Hp) : List Addr := (List.range h.objs.size).filter fun a => (H a).isSome
def hidT (h : Heap) (H : Hp) : Heap := PySem.W.hideAll h (trk h H)
theorem hidT_size (h : Heap) (H : Hp) : (hidT h H).objs.size = h.objs.size := PySem.W.hideAll_size _ _
theorem hidT_get {h : Heap} {H : Hp} {b : Addr} {o : Obj} (e : h.get? b = some o) (n : H b = none) : (hidT h H).get? b = some o :=
  PySem.W.hideAll_get _ e fun hm => by
    have q : (H b).isSome = true := (List.mem_filter.mp hm).2
    rw [n] at q; simp at q
theorem of_hidT {h : Heap} {H : Hp} {b : Addr} {o : Obj} (e : (hidT h H).get? b = some o) : h.get? b = some o ∧ H b = none := by
  have e' : h.get? b = some o := PySem.W.of_hideAll (trk h H) e
  refine ⟨e', ?_⟩
  cases q : H b with
  | none => rfl
  | some x =>
    have hm : b ∈ trk h H := List.mem_filter.mpr ⟨List.mem_range.mpr (Heap.lt_size e'), by simp [q]⟩
    have z : (hidT h H).get? b = none := PySem.W.hideAll_none (trk h H) hm
    rw [z] at e; cases e

def allNews (g h : Heap) (L : Addr) : List (Addr × Obj) := (List.range h.objs.size).filterMap fun a => if a = L ∨ (g.get? a).isSome = true then none else (h.get? a).map fun o => (a, o)
def rest (g h : Heap) (L d : Addr) : List (Addr × Obj) := (allNews g h L).filter fun p => decide (p.1 ≠ d)
end L2

namespace L2
open PySem PySem.Spec PyProof.Rows

structure Mod (K : PySem.W.Frag) (mg : Str → Option Value) (base : Heap) : Prop where
  kin : K.In base
  glob : base.Ns mainGlobals mg
  blt : ∃ mb, base.Ns builtinsNs mb ∧ ∀ x : Str, x ≠ "__name__" → mb x = bootBuiltins x
  nolimit : base.NoLimit

structure Cx where
  prog : Program
  w : World
  K : PySem.W.Frag
  mg : Str → Option Value
  base : Heap
  A : Around
  N : List Str
  s₀ : Shared
  H₀ : Hp
  env : Env
  outer : List Env
  stack : List Env
  ex : List Addr
  fn : Str → Bool
  calm : Bool
  pn : List (Addr × Obj)
  xe : Value → Shared → Prop
def frs (l : List Env) : List Addr := l.filterMap (·.frame)
abbrev Cx.fs (X : Cx) : List Addr := frs X.outer

def Vis (sc : Scope) (x : Str) : Prop := sc.names.lookup x = some .local ∨ sc.names.lookup x = some .cell ∨ sc.names.lookup x = some .free
def Loc (sc : Scope) (x : Str) : Prop := sc.names.lookup x = some .local ∨ sc.names.lookup x = some .cell
def Look (env : Env) (h : Heap) (m : Str → Option Value) (x : Str) (u : Value) : Prop :=
  (env.kindOf x = some .local ∧ m x = some u) ∨ ((env.kindOf x = some .cell ∨ env.kindOf x = some .free) ∧ ∃ c, env.cells.lookup x = some c ∧ h.IsCell c (some u))

structure Cx.Ok (X : Cx) : Prop where
  mod : Mod X.K X.mg X.base
  kind : X.env.scope.kind = .function
  glob : X.env.globals = mainGlobals
  blt : X.env.builtins = builtinsNs
  above : X.s₀.heap.objs.size ≤ X.env.locals
  inj : ∀ x y c, X.env.cells.lookup x = some c → X.env.cells.lookup y = some c → x = y
  has : ∀ x, (X.env.kindOf x = some .cell ∨ X.env.kindOf x = some .free) → ∃ c, X.env.cells.lookup x = some c
  cab : ∀ x c, X.fn x = true → X.env.cells.lookup x = some c → X.s₀.heap.objs.size ≤ c
  hd : X.calm = true → X.A.handled = none
  frames : X.A.frames = some X.stack
  stk : X.stack = X.outer ∨ (X.stack = X.env :: X.outer ∧ X.env.frame = some X.env.locals)
  exf : ∀ b ∈ X.ex, b ≠ X.env.locals ∧ ∀ x c, X.env.cells.lookup x = some c → c ≠ b
  bs : ∀ b o, X.base.get? b = some o → X.s₀.heap.get? b = some o ∧ X.H₀ b = none
  bsz : X.base.objs.size ≤ X.s₀.heap.objs.size
  noex : ∀ b o, X.base.get? b = some o → b ∉ X.ex
  exfs : ∀ b ∈ X.ex, b ∉ X.fs
  funs : X.s₀.heap.FunFrames X.base X.outer
  frf : ∀ b ∈ X.fs, X.H₀ b = none

structure Inv (X : Cx) (pins : List (Addr × Obj)) (σ : List (Option V)) (H : Hp) (s : Shared) : Prop where
  ok : X.Ok
  os : s.os = X.s₀.os
  bare : AllBare s.gens
  base : Un X.fs X.ex X.H₀ H X.s₀.heap s.heap
  loc : ∃ m, s.heap.Ns X.env.locals m ∧ ∀ (i : Nat) (x : Str) (v : V), X.N[i]? = some x → σ[i]? = some (some v) → Vis X.env.scope x → ∃ u, RelV v u ∧ Look X.env s.heap m x u
  cell : ∀ x c, X.env.cells.lookup x = some c → ∃ v, s.heap.IsCell c v
  free : H X.env.locals = none
  freeC : ∀ x c, X.env.cells.lookup x = some c → H c = none
  pin : ∀ p ∈ X.pn ++ pins, s.heap.get? p.1 = some p.2 ∧ H p.1 = none ∧ p.1 ≠ X.env.locals ∧ p.1 ∉ X.fs ∧ ∀ v, p.2.data ≠ .cell v
  hok : HOk X.prog X.w H s.heap
  len : σ.length = X.N.length

section
variable {X : Cx} {pins : List (Addr × Obj)} {σ : List (Option V)} {H H' : Hp} {s : Shared} {h' : Heap}

theorem Cx.Ok.nofr (ok : X.Ok) {b : Addr} {o : Obj} (e : X.base.get? b = some o) : b ∉ X.fs := fun hb => by
  have := (ok.funs.mem hb).1
  rw [e] at this; cases this
theorem Inv.bs (I : Inv X pins σ H s) : ∀ b o, X.base.get? b = some o → s.heap.get? b = some o ∧ H b = none := fun b o e =>
  ⟨I.base.keep b o (I.ok.bs b o e).1 (I.ok.bs b o e).2 (I.ok.nofr e) (I.ok.noex b o e), I.base.free b o (I.ok.bs b o e).1 (I.ok.bs b o e).2 (I.ok.noex b o e)⟩
theorem Inv.bk (I : Inv X pins σ H s) : ∀ b o, X.base.get? b = some o → s.heap.get? b = some o := fun b o e => (I.bs b o e).1
theorem Inv.mod (I : Inv X pins σ H s) : Mod X.K X.mg X.base := I.ok.mod
theorem Inv.kIn (I : Inv X pins σ H s) : X.K.In s.heap := I.ok.mod.kin.keeps I.bk
theorem Inv.nolimit (I : Inv X pins σ H s) : s.heap.NoLimit := I.ok.mod.nolimit.keeps I.bk
theorem Inv.fr (I : Inv X pins σ H s) : ∃ m, Fr X.base X.env.locals s.heap m :=
  let ⟨m, hn, _⟩ := I.loc
  ⟨m, hn, I.bk, Nat.le_trans I.ok.bsz I.ok.above⟩
theorem Inv.lt (I : Inv X pins σ H s) : X.env.locals < s.heap.objs.size := let ⟨_, hn, _⟩ := I.loc; hn.lt
theorem Inv.sz (I : Inv X pins σ H s) : X.s₀.heap.objs.size ≤ s.heap.objs.size := Nat.le_trans I.ok.above (Nat.le_of_lt I.lt)
theorem Inv.nofs (I : Inv X pins σ H s) {a : Addr} (h : s.heap.objs.size ≤ a) : a ∉ X.fs := fun hb => by
  obtain ⟨_, o, ho, _⟩ := I.ok.funs.mem hb
  exact absurd (Nat.lt_of_lt_of_le (Heap.lt_size ho) (Nat.le_trans I.sz h)) (Nat.lt_irrefl _)
theorem Inv.cne (I : Inv X pins σ H s) : ∀ x c, X.env.cells.lookup x = some c → c ≠ X.env.locals := fun x c e z => by
  obtain ⟨v, o, ho, hd⟩ := I.cell x c e
  obtain ⟨m, ⟨o', es, ep, ho', hd', _⟩, _⟩ := I.loc
  rw [z, ho'] at ho; cases ho; rw [hd'] at hd; cases hd
theorem Inv.funs (I : Inv X pins σ H s) : s.heap.FunFrames X.base X.outer := by
  have all : ∀ (l : List Env), (∀ b ∈ frs l, b ∈ X.fs) → X.s₀.heap.FunFrames X.base l → s.heap.FunFrames X.base l := by
    intro l
    induction l with
    | nil => intro _ _; trivial
    | cons env r ih =>
      intro hs hl
      obtain ⟨hk, ⟨L, o, hf, hn, ho, hd⟩, hr⟩ := hl
      have hL : L ∈ X.fs := hs L (by unfold frs; rw [List.filterMap_cons, hf]; exact List.mem_cons_self)
      obtain ⟨sl, e⟩ := I.base.slot L o ho (I.ok.frf L hL) hL fun z => I.ok.exfs L z hL
      exact ⟨hk, ⟨L, _, hf, hn, e, hd⟩, ih (fun b hb => hs b (by unfold frs; rw [List.filterMap_cons, hf]; exact List.mem_cons_of_mem _ hb)) hr⟩
  exact all X.outer (fun _ hb => hb) I.ok.funs

theorem Inv.stack (I : Inv X pins σ H s) : s.heap.FunFrames X.base X.stack := by
  rcases I.ok.stk with e | ⟨e, hf⟩
  · rw [e]; exact I.funs
  · rw [e]
    obtain ⟨m, hn, _⟩ := I.loc
    refine .cons (by rw [I.ok.kind]; decide) hf hn ?_ I.funs
    exact Heap.get?_none_of_le (Nat.le_trans I.ok.bsz I.ok.above)
theorem Inv.stkSub (I : Inv X pins σ H s) : ∀ b ∈ frs X.stack, b ∈ X.env.locals :: X.fs := fun b hb => by
  rcases I.ok.stk with e | ⟨e, hf⟩
  · rw [e] at hb; exact List.mem_cons_of_mem _ hb
  · rw [e] at hb
    unfold frs at hb
    rw [List.filterMap_cons, hf] at hb
    exact hb
theorem Inv.stkFree (I : Inv X pins σ H s) : ∀ b ∈ frs X.stack, H b = none := fun b hb => by
  rcases List.mem_cons.mp (I.stkSub b hb) with e | hb
  · rw [e]; exact I.free
  · obtain ⟨_, o, ho, _⟩ := I.ok.funs.mem hb
    exact I.base.free b o ho (I.ok.frf b hb) fun z => I.ok.exfs b z hb

theorem Inv.step {g' : Array GenState} {t' : Nat} {d' : Drawn} {ch : List Addr} (I : Inv X pins σ H s)
    (hch : ∀ b ∈ ch, (b ∈ X.ex ∨ X.s₀.heap.objs.size ≤ b) ∧ b ≠ X.env.locals ∧ (∀ x c, X.env.cells.lookup x = some c → c ≠ b) ∧ ∀ p ∈ X.pn ++ pins, p.1 ≠ b)
    (keep : ∀ b o, b ≠ X.env.locals → b ∉ X.fs → b ∉ ch → s.heap.get? b = some o → H b = none → h'.get? b = some o)
    (slot : ∀ b o, b ≠ X.env.locals → b ∈ X.fs → b ∉ ch → s.heap.get? b = some o → H b = none → ∃ sl, h'.get? b = some { o with slots := sl }) (free : ∀ b o, b ∉ ch → s.heap.get? b = some o → H b = none → H' b = none)
    (there : ∀ b o, b ∉ ch → s.heap.get? b = some o → ∃ o', h'.get? b = some o')
    (tups : ∀ b xs, H b = some (.tup xs) → H' b = some (.tup xs)) (frzs : ∀ b o u, H b = some (.frz o u) → H' b = some (.frz o u)) (tbls : ∀ b ps, H b = some (.tbl ps) → ∃ more, H' b = some (.tbl (ps ++ more)))
    (ns : ∀ m, s.heap.Ns X.env.locals m → h'.Ns X.env.locals m) (hok : HOk X.prog X.w H' h') (hg : AllBare g') :
    Inv X pins σ H' { s with heap := h', gens := g', drawn := d', toks := t' } := by
  have neL : ∀ b o, X.s₀.heap.get? b = some o → b ≠ X.env.locals := fun b o e => Nat.ne_of_lt (Nat.lt_of_lt_of_le (Heap.lt_size e) I.ok.above)
  have neC : ∀ b o, X.s₀.heap.get? b = some o → b ∉ X.ex → b ∉ ch := fun b o e hx hb => by
    rcases (hch b hb).1 with z | z
    · exact hx z
    · exact absurd (Nat.lt_of_lt_of_le (Heap.lt_size e) z) (Nat.lt_irrefl _)
  have cellK : ∀ x c, X.env.cells.lookup x = some c → ∀ v, s.heap.IsCell c v → h'.IsCell c v := fun x c e v ⟨o, ho, hd⟩ => by
    have nch : c ∉ ch := fun z => (hch c z).2.2.1 x c e rfl
    by_cases hc : c ∈ X.fs
    · obtain ⟨sl, q⟩ := slot c o (I.cne x c e) hc nch ho (I.freeC x c e)
      exact ⟨_, q, hd⟩
    · exact ⟨o, keep c o (I.cne x c e) hc nch ho (I.freeC x c e), hd⟩
  refine ⟨I.ok, I.os, hg, ⟨fun b o e n hb hx => ?_, fun b o e n hb hx => ?_, fun b o e n hx => ?_, fun b o e hx => ?_, fun b xs e => tups b xs (I.base.tups b xs e), fun b o xs e => frzs b o xs (I.base.frzs b o xs e), fun b ps e => ?_⟩, ?_, fun x c e => ?_, ?_, fun x c e => ?_, fun p hp => ?_, hok, I.len⟩
  · exact keep b o (neL b o e) hb (neC b o e hx) (I.base.keep b o e n hb hx) (I.base.free b o e n hx)
  · obtain ⟨sl, e1⟩ := I.base.slot b o e n hb hx
    obtain ⟨sl', e2⟩ := slot b _ (neL b o e) hb (neC b o e hx) e1 (I.base.free b o e n hx)
    exact ⟨sl', e2⟩
  · obtain ⟨o', e1⟩ := I.base.there b o e hx
    exact free b o' (neC b o e hx) e1 (I.base.free b o e n hx)
  · obtain ⟨o', e1⟩ := I.base.there b o e hx
    exact there b o' (neC b o e hx) e1
  · obtain ⟨m1, e1⟩ := I.base.tbls b ps e
    obtain ⟨m2, e2⟩ := tbls b _ e1
    exact ⟨m1 ++ m2, by rw [e2, Array.append_assoc]⟩
  · obtain ⟨m, hn, hl⟩ := I.loc
    refine ⟨m, ns m hn, fun i x v e1 e2 e3 => ?_⟩
    obtain ⟨u, r, l⟩ := hl i x v e1 e2 e3
    refine ⟨u, r, ?_⟩
    rcases l with l | ⟨k, c, e, z⟩
    · exact .inl l
    · exact .inr ⟨k, c, e, cellK x c e _ z⟩
  · obtain ⟨v, z⟩ := I.cell x c e
    exact ⟨v, cellK x c e v z⟩
  · obtain ⟨m, ⟨o, _, _, ho, _⟩, _⟩ := I.loc
    exact free _ o (fun z => (hch _ z).2.1 rfl) ho I.free
  · obtain ⟨v, o, ho, hd⟩ := I.cell x c e
    exact free c o (fun z => (hch c z).2.2.1 x c e rfl) ho (I.freeC x c e)
  · obtain ⟨e, n, ne, nf, d⟩ := I.pin p hp
    have nch : p.1 ∉ ch := fun z => (hch p.1 z).2.2.2 p hp rfl
    exact ⟨keep p.1 p.2 ne nf nch e n, free p.1 p.2 nch e n, ne, nf, d⟩
theorem Inv.un {t' : Nat} (I : Inv X pins σ H s) (u : Un X.fs [] H H' s.heap h') (hok : HOk X.prog X.w H' h') : Inv X pins σ H' { s with heap := h', toks := t' } := by
  obtain ⟨m, ⟨o, es, ep, ho, r⟩, _⟩ := id I.loc
  obtain ⟨sl, hL⟩ := u.any ho I.free (by simp)
  exact I.step (g' := s.gens) (d' := s.drawn) (ch := []) (fun _ z => nomatch z) (fun b o _ hb _ e n => u.keep b o e n hb (by simp)) (fun b o _ hb _ e n => u.slot b o e n hb (by simp)) (fun b o _ e n => u.free b o e n (by simp)) (fun b o _ e => u.there b o e (by simp)) u.tups u.frzs u.tbls (fun m' hm => by
    obtain ⟨o', es', ep', ho', r'⟩ := hm
    rw [ho] at ho'; cases ho'
    exact ⟨_, es', ep', hL, r'⟩) hok I.bare
theorem Inv.call {g' : Array GenState} {t' : Nat} {d' : Drawn} {ch : List Addr} (I : Inv X pins σ H s) (u : Un (frs X.stack) ch H H' s.heap h') (hok : HOk X.prog X.w H' h') (hg : AllBare g')
    (hch : ∀ b ∈ ch, (b ∈ X.ex ∨ X.s₀.heap.objs.size ≤ b) ∧ b ≠ X.env.locals ∧ (∀ x c, X.env.cells.lookup x = some c → c ≠ b) ∧ ∀ p ∈ X.pn ++ pins, p.1 ≠ b) :
    Inv X pins σ H' { s with heap := h', gens := g', drawn := d', toks := t' } := by
  obtain ⟨m, ⟨o, es, ep, ho, r⟩, _⟩ := id I.loc
  obtain ⟨sl, hL⟩ := u.any ho I.free fun z => (hch _ z).2.1 rfl
  exact I.step (ch := ch) hch (fun b o hL hb hc e n => u.keep b o e n (fun z => (List.mem_cons.mp (I.stkSub b z)).elim hL hb) hc) (fun b o _ _ hc e n => u.any e n hc) (fun b o hc e n => u.free b o e n hc) (fun b o hc e => u.there b o e hc) u.tups u.frzs u.tbls (fun m' hm => by
    obtain ⟨o', es', ep', ho', r'⟩ := hm
    rw [ho] at ho'; cases ho'
    exact ⟨_, es', ep', hL, r'⟩) hok hg
theorem Inv.turned {t' : Nat} {it : Addr} (I : Inv X pins σ H s) (k : ∀ b o, b ≠ it → s.heap.get? b = some o → h'.get? b = some o) (hn : H it = none) (hL : it ≠ X.env.locals)
    (h1 : it ∈ X.ex ∨ X.s₀.heap.objs.size ≤ it) (h2 : ∀ x c, X.env.cells.lookup x = some c → c ≠ it) (h3 : ∀ p ∈ X.pn ++ pins, p.1 ≠ it) : Inv X pins σ H { s with heap := h', toks := t' } := by
  have nit : ∀ b u, H b = some u → b ≠ it := fun b u e z => by rw [z, hn] at e; cases e
  refine I.step (g' := s.gens) (d' := s.drawn) (ch := [it]) (fun b hb => ?_) (fun b o _ _ hc e _ => k b o (fun z => hc (by simp [z])) e) (fun b o _ _ hc e _ => ⟨o.slots, k b o (fun z => hc (by simp [z])) e⟩) (fun _ _ _ _ n => n)
    (fun b o hc e => ⟨o, k b o (fun z => hc (by simp [z])) e⟩) (fun _ _ e => e) (fun _ _ _ e => e) (fun b ps e => ⟨#[], by rw [e]; simp⟩) (fun m hm => ?_) (fun b u e => ?_) I.bare
  · have e : b = it := by simpa using hb
    subst e
    exact ⟨h1, hL, h2, h3⟩
  · obtain ⟨o, es, ep, ho, r⟩ := hm
    exact ⟨o, es, ep, k _ o (Ne.symm hL) ho, r⟩
  · refine (I.hok b u e).stay (fun c v hc q => k c v ?_ q) (fun _ q => q) fun _ _ q => q
    rcases hc with z | z
    · rw [z]; exact nit b u e
    · exact nit c _ z
theorem Inv.tok (I : Inv X pins σ H s) (t : Nat) : Inv X pins σ H { s with toks := t } := I.un (h' := s.heap) (t' := t) Un.refl I.hok
theorem Inv.kept {t' : Nat} (I : Inv X pins σ H s) (k : ∀ b u, s.heap.get? b = some u → h'.get? b = some u) : Inv X pins σ H { s with heap := h', toks := t' } := I.un (Un.kept k) (I.hok.kept k)
theorem Inv.laid {a : Addr} {o : HO} {t' : Nat} (I : Inv X pins σ H s) (k : ∀ b u, s.heap.get? b = some u → h'.get? b = some u) (hp : s.heap.objs.size ≤ a) (new : ObjOk X.prog X.w (upd H a o) h' a o) :
    Inv X pins σ (upd H a o) { s with heap := h', toks := t' } := I.un (Un.laid k hp (I.hok.fresh hp)) (I.hok.laid k hp new)
theorem Inv.write {x e : Addr} {o : HO} {t' : Nat} (I : Inv X pins σ H s) (mu : Mut (H x)) (he : e = x ∨ H e = some (.own x)) (k : ∀ b u, b ≠ e → s.heap.get? b = some u → h'.get? b = some u) (heo : ∃ u, h'.get? e = some u)
    (new : ObjOk X.prog X.w (upd H x o) h' x o) : Inv X pins σ (upd H x o) { s with heap := h', toks := t' } := I.un (Un.write mu he k heo) (I.hok.write mu he k heo new)
theorem Inv.pins_of {pins' : List (Addr × Obj)} (I : Inv X pins σ H s) (h : ∀ p ∈ pins', s.heap.get? p.1 = some p.2 ∧ H p.1 = none ∧ p.1 ≠ X.env.locals ∧ p.1 ∉ X.fs ∧ ∀ v, p.2.data ≠ .cell v) : Inv X pins' σ H s :=
  ⟨I.ok, I.os, I.bare, I.base, I.loc, I.cell, I.free, I.freeC, fun p hp => (List.mem_append.mp hp).elim (fun z => I.pin p (List.mem_append_left _ z)) (h p), I.hok, I.len⟩

theorem nodup_ix {N : List Str} (hN : N.Nodup) {i j : Nat} {x : Str} (a : N[i]? = some x) (b : N[j]? = some x) : i = j := by
  obtain ⟨h1, e1⟩ := List.getElem?_eq_some_iff.mp a
  obtain ⟨h2, e2⟩ := List.getElem?_eq_some_iff.mp b
  exact (List.getElem_inj hN).mp (e1.trans e2.symm)

theorem store_ok2 {M : Model} {A : Around} {E : Value → Shared → Prop} {i : Nat} {x : Str} {v : V} {u : Value} {Q : Unit → Shared → Prop} (I : Inv X pins σ H s) (hN : X.N.Nodup) (hi : X.N[i]? = some x) (hx : Loc X.env.scope x) (r : RelV v u)
    (h : ∀ s', Inv X pins (σ.set i (some v)) H s' → (∃ a, Heap.SameBut a s.heap s'.heap ∧ (a = X.env.locals ∨ X.env.cells.lookup x = some a)) → Q () s') (hf : X.fn x = true ∨ X.env.scope.names.lookup x = some .local := by first | exact .inl rfl | exact .inr rfl | assumption) : wpAny M A (storeName X.env x u) Q E s := by
  obtain ⟨m, hn, hl⟩ := id I.loc
  have hcls : (X.env.scope.kind == .class || (X.env.scope.kind == .module && X.env.locals != X.env.globals)) = false := by rw [I.ok.kind]; rfl
  have hiσ : i < σ.length := by rw [I.len]; exact (List.getElem?_eq_some_iff.mp hi).1
  have cne := I.cne
  have tracked : ∀ {a : Addr} {h' : Heap}, (∃ o, s.heap.get? a = some o ∧ H a = none) → Heap.SameBut a s.heap h' → HOk X.prog X.w H h' := fun {a h'} ha hs b ob e => by
    obtain ⟨_, _, hfree⟩ := ha
    refine (I.hok b ob e).stay (fun c w' hc q => (hs.2 c ?_).trans q) (fun _ q => q) fun _ _ q => q
    rintro rfl
    rcases hc with rfl | hc
    · rw [hfree] at e; cases e
    · rw [hfree] at hc; cases hc
  rcases hx with hk | hk
  · refine wpAny_storeName_local hk hn (fun h' hn' hs => ?_) hcls
    obtain ⟨oL, _, _, hoL, _⟩ := id hn
    refine h _ ⟨I.ok, I.os, I.bare, ⟨fun b o e n hb hx => ?_, fun b o e n hb hx => ?_, I.base.free, fun b o e hx => ?_, I.base.tups, I.base.frzs, I.base.tbls⟩, ⟨_, hn', fun j y v' e1 e2 e3 => ?_⟩, fun y c e => ?_, I.free, I.freeC, fun p hp => ?_, tracked ⟨oL, hoL, I.free⟩ hs, by simpa using I.len⟩ ⟨_, hs, .inl rfl⟩
    · exact (hs.2 b (Nat.ne_of_lt (Nat.lt_of_lt_of_le (Heap.lt_size e) I.ok.above))).trans (I.base.keep b o e n hb hx)
    · obtain ⟨sl, e1⟩ := I.base.slot b o e n hb hx
      exact ⟨sl, (hs.2 b (Nat.ne_of_lt (Nat.lt_of_lt_of_le (Heap.lt_size e) I.ok.above))).trans e1⟩
    · obtain ⟨o', e1⟩ := I.base.there b o e hx
      exact ⟨o', (hs.2 b (Nat.ne_of_lt (Nat.lt_of_lt_of_le (Heap.lt_size e) I.ok.above))).trans e1⟩
    · by_cases hj : j = i
      · subst hj
        rw [hi] at e1; cases e1
        rw [List.getElem?_set_self hiσ] at e2
        cases e2
        exact ⟨u, r, .inl ⟨hk, by simp⟩⟩
      · rw [List.getElem?_set_ne (Ne.symm hj)] at e2
        obtain ⟨u', r', q⟩ := hl j y v' e1 e2 e3
        refine ⟨u', r', ?_⟩
        rcases q with ⟨k, e⟩ | ⟨k, c, e, z⟩
        · refine .inl ⟨k, ?_⟩
          have : y ≠ x := fun e => hj (nodup_ix hN e1 (e ▸ hi))
          simp [this, e]
        · exact .inr ⟨k, c, e, z.sameBut hs (cne y c e)⟩
    · obtain ⟨w', z⟩ := I.cell y c e
      exact ⟨w', z.sameBut hs (cne y c e)⟩
    · obtain ⟨e, n, ne, nf, d⟩ := I.pin p hp
      exact ⟨(hs.2 p.1 ne).trans e, n, ne, nf, d⟩
  · have hfn : X.fn x = true := by
      rcases hf with z | z
      · exact z
      · rw [z] at hk; cases hk
    obtain ⟨c, hc⟩ := I.ok.has x (.inl hk)
    obtain ⟨w', z⟩ := I.cell x c hc
    refine wpAny_storeName_cell I.ok.kind hk hc z (fun h' hc' hs => ?_)
    obtain ⟨oc, hoc, hocd⟩ := id z
    refine h { s with heap := h' } ⟨I.ok, I.os, I.bare, ⟨fun b o e n hb hx => ?_, fun b o e n hb hx => ?_, I.base.free, fun b o e hx => ?_, I.base.tups, I.base.frzs, I.base.tbls⟩, ⟨m, hn.sameBut hs (Ne.symm (cne x c hc)), fun j y v' e1 e2 e3 => ?_⟩, fun y c' e => ?_, I.free, I.freeC, fun p hp => ?_, tracked ⟨oc, hoc, I.freeC x c hc⟩ hs, by simpa using I.len⟩ ⟨c, hs, .inr hc⟩
    · exact (hs.2 b (Nat.ne_of_lt (Nat.lt_of_lt_of_le (Heap.lt_size e) (I.ok.cab x c hfn hc)))).trans (I.base.keep b o e n hb hx)
    · obtain ⟨sl, e1⟩ := I.base.slot b o e n hb hx
      exact ⟨sl, (hs.2 b (Nat.ne_of_lt (Nat.lt_of_lt_of_le (Heap.lt_size e) (I.ok.cab x c hfn hc)))).trans e1⟩
    · obtain ⟨o', e1⟩ := I.base.there b o e hx
      exact ⟨o', (hs.2 b (Nat.ne_of_lt (Nat.lt_of_lt_of_le (Heap.lt_size e) (I.ok.cab x c hfn hc)))).trans e1⟩
    · by_cases hj : j = i
      · subst hj
        rw [hi] at e1; cases e1
        rw [List.getElem?_set_self hiσ] at e2
        cases e2
        exact ⟨u, r, .inr ⟨.inl hk, c, hc, hc'⟩⟩
      · rw [List.getElem?_set_ne (Ne.symm hj)] at e2
        obtain ⟨u', r', q⟩ := hl j y v' e1 e2 e3
        refine ⟨u', r', ?_⟩
        rcases q with q | ⟨k, c', e, z'⟩
        · exact .inl q
        · refine .inr ⟨k, c', e, z'.sameBut hs ?_⟩
          rintro rfl
          exact hj (nodup_ix hN e1 (I.ok.inj _ _ _ e hc ▸ hi))
    · by_cases hcc : c' = c
      · subst hcc; exact ⟨_, hc'⟩
      · obtain ⟨w2, z2⟩ := I.cell y c' e
        exact ⟨w2, z2.sameBut hs hcc⟩
    · obtain ⟨e, n, ne, nf, d⟩ := I.pin p hp
      refine ⟨(hs.2 p.1 ?_).trans e, n, ne, nf, d⟩
      intro q
      rw [q, hoc] at e
      have q' : oc = p.2 := Option.some.inj e
      exact d w' (by rw [← q']; exact hocd)
theorem store_ok {M : Model} {A : Around} {E : Value → Shared → Prop} {i : Nat} {x : Str} {v : V} {u : Value} {Q : Unit → Shared → Prop} (I : Inv X pins σ H s) (hN : X.N.Nodup) (hi : X.N[i]? = some x) (hx : Loc X.env.scope x) (r : RelV v u)
    (h : ∀ s', Inv X pins (σ.set i (some v)) H s' → Q () s') (hf : X.fn x = true ∨ X.env.scope.names.lookup x = some .local := by first | exact .inl rfl | exact .inr rfl | assumption) : wpAny M A (storeName X.env x u) Q E s :=
  store_ok2 I hN hi hx r (fun s' I' _ => h s' I') hf
theorem Inv.call' {s' : Shared} {ch : List Addr} (I : Inv X pins σ H s) (ho : s'.os = s.os) (u : Un (frs X.stack) ch H H' s.heap s'.heap) (hok : HOk X.prog X.w H' s'.heap) (hg : AllBare s'.gens)
    (hch : ∀ b ∈ ch, (b ∈ X.ex ∨ X.s₀.heap.objs.size ≤ b) ∧ b ≠ X.env.locals ∧ (∀ x c, X.env.cells.lookup x = some c → c ≠ b) ∧ ∀ p ∈ X.pn ++ pins, p.1 ≠ b) : Inv X pins σ H' s' := by
  obtain ⟨h', g', d', t', o'⟩ := s'
  have e : o' = s.os := ho
  subst e
  exact I.call (g' := g') (t' := t') (d' := d') u hok hg hch
end

abbrev XK := Value → Option Addr → Hp → Prop
abbrev St := List (Option V)
abbrev VK := V → Hp → Prop
abbrev TE := St → Hp → VK → Prop
abbrev TT := St → Hp → (Bool → Hp → Prop) → Prop
abbrev TA := St → Hp → (List V → Hp → Prop) → Prop
structure Ends where
  nx : St → Hp → Prop
  rt : VK
  bk : St → Hp → Prop := fun _ _ => False
  ct : St → Hp → Prop := fun _ _ => False
abbrev TS := Ends → St → Hp → Prop

def EP (X : Cx) (pins : List (Addr × Obj)) (σ : St) (Q : VK) (u : Value) (s' : Shared) : Prop := ∃ v H', Inv X pins σ H' s' ∧ RelV v u ∧ Q v H'
def TP (X : Cx) (pins : List (Addr × Obj)) (σ : St) (Q : Bool → Hp → Prop) (b : Bool) (s' : Shared) : Prop := ∃ H', Inv X pins σ H' s' ∧ Q b H'
def AP (X : Cx) (pins : List (Addr × Obj)) (σ : St) (Q : List V → Hp → Prop) (us : List Value) (s' : Shared) : Prop := ∃ vs H', Inv X pins σ H' s' ∧ Vals vs us ∧ Q vs H'
def SP (X : Cx) (pins : List (Addr × Obj)) (D : Ends) (f : Flow) (s' : Shared) : Prop :=
  match f with
  | .next => ∃ σ' H', Inv X pins σ' H' s' ∧ D.nx σ' H'
  | .brk => ∃ σ' H', Inv X pins σ' H' s' ∧ D.bk σ' H'
  | .cont => ∃ σ' H', Inv X pins σ' H' s' ∧ D.ct σ' H'
  | .ret u => ∃ v σ' H', Inv X pins σ' H' s' ∧ RelV v u ∧ D.rt v H'

def PE (X : Cx) (e : Expr) (t : TE) : Prop :=
  ∀ (pins : List (Addr × Obj)) (s : Shared) (σ : St) (H : Hp) (Q : VK), Inv X pins σ H s → t σ H Q → wpAny (model X.prog X.w) X.A (eval e X.env) (EP X pins σ Q) X.xe s
def PT (X : Cx) (e : Expr) (t : TT) : Prop :=
  ∀ (pins : List (Addr × Obj)) (s : Shared) (σ : St) (H : Hp) (Q : Bool → Hp → Prop), Inv X pins σ H s → t σ H Q → wpAny (model X.prog X.w) X.A (isTrue e X.env (eval e X.env)) (TP X pins σ Q) X.xe s
def PW (X : Cx) (e : Expr) (t : TT) : Prop :=
  ∀ (whole : Sem Value) (pins : List (Addr × Obj)) (s : Shared) (σ : St) (H : Hp) (Q : Bool → Hp → Prop), Inv X pins σ H s → t σ H Q → wpAny (model X.prog X.w) X.A (isTrue e X.env whole) (TP X pins σ Q) X.xe s
theorem PW.pt {X : Cx} {e : Expr} {t : TT} (h : PW X e t) : PT X e t := h _
def PA (X : Cx) (es : List Expr) (t : TA) : Prop :=
  ∀ (pos : Pos) (pins : List (Addr × Obj)) (s : Shared) (σ : St) (H : Hp) (Q : List V → Hp → Prop), Inv X pins σ H s → t σ H Q → wpAny (model X.prog X.w) X.A (spliced (backTo pos (starEach es X.env))) (AP X pins σ Q) X.xe s
def PS (X : Cx) (st : Stmt) (t : TS) : Prop :=
  ∀ (pins : List (Addr × Obj)) (s : Shared) (σ : St) (H : Hp) (D : Ends), Inv X pins σ H s → t D σ H → wpAny (model X.prog X.w) X.A (exec st X.env) (SP X pins D) X.xe s
def PSs (X : Cx) (st : List Stmt) (t : TS) : Prop :=
  ∀ (pins : List (Addr × Obj)) (s : Shared) (σ : St) (H : Hp) (D : Ends), Inv X pins σ H s → t D σ H → wpAny (model X.prog X.w) X.A (execs st X.env) (SP X pins D) X.xe s
theorem thn {α : Type} {t : Sem α} {Q Q' : α → Shared → Prop} {M : Model} {A : Around} {E : Value → Shared → Prop} {s : Shared} (h : wpAny M A t Q E s) (hQ : ∀ a s, Q a s → Q' a s) : wpAny M A t Q' E s := wpAny_mono h hQ fun _ _ x => x
end L2

namespace L2
open PySem PySem.Spec PyProof.Rows
section
variable {X : Cx}


def tVar (i : Nat) : TE := fun σ H Q => ∃ v, σ[i]? = some (some v) ∧ Q v H
def tC (v : V) : TE := fun _ H Q => Q v H
theorem pe_var {i : Nat} {x : Str} {pos : Pos} (hN : X.N[i]? = some x) (hv : Vis X.env.scope x) (hd : (x == ("__debug__" : Str)) = false := by decide) (hcd : (x == ("__classdict__" : Str)) = false := by decide) : PE X (.Name x pos) (tVar i) := by
  intro pins s σ H Q I h
  obtain ⟨v, e, h⟩ := h
  obtain ⟨m, hn, hl⟩ := I.loc
  obtain ⟨u, r, l⟩ := hl i x v hN e hv
  have fin : EP X pins σ Q u s := ⟨v, H, I, r, h⟩
  rcases l with ⟨hk, hm⟩ | ⟨hk, c, hc, hcell⟩
  · exact wpAny_Name (wpAny_loadName_local I.ok.kind hk hn hm fin) hd
  · rcases hk with hk | hk
    · exact wpAny_Name (wpAny_loadName_cell I.ok.kind hk hc hcell fin) hd
    · exact wpAny_Name (wpAny_loadName_free I.ok.kind hk hc hcell fin hcd) hd
theorem pe_int {i j pos} : PE X (.Constant (.int i) j pos) (tC (.int i)) := fun _ _ _ H _ I h => wpAny_Constant_int ⟨.int i, H, I.tok _, ⟨_, rfl⟩, h⟩
theorem pe_bl {b j pos} : PE X (.Constant (.bool b) j pos) (tC (.bl b)) := fun _ _ _ H _ I h => Constant_bool ⟨.bl b, H, I, rfl, h⟩
theorem pe_non {j pos} : PE X (.Constant .none j pos) (tC .non) := fun _ _ _ H _ I h => Constant_none ⟨.non, H, I, rfl, h⟩

def Gl (X : Cx) (x : Str) : Prop := X.env.kindOf x = some .globalImplicit
theorem ld_glob {E : Value → Shared → Prop} {pins : List (Addr × Obj)} {s : Shared} {σ : St} {H : Hp} {x : Str} {u : Value} {pos : Pos} {Q : Value → Shared → Prop} (I : Inv X pins σ H s) (hg : Gl X x) (hm : X.mg x = some u) (h : Q u s)
    (hd : (x == ("__debug__" : Str)) = false := by decide) : wpAny (model X.prog X.w) X.A (eval (.Name x pos) X.env) Q E s :=
  Calls.Name_function_global I.ok.kind hg (Calls.loadGlobal_global (by rw [I.ok.glob]; exact I.mod.glob.keeps I.bk) hm h) hd
theorem ld_blt {E : Value → Shared → Prop} {pins : List (Addr × Obj)} {s : Shared} {σ : St} {H : Hp} {x : Str} {u : Value} {pos : Pos} {Q : Value → Shared → Prop} (I : Inv X pins σ H s) (hg : Gl X x) (hm : X.mg x = none) (hv : bootBuiltins x = some u) (h : Q u s)
    (hn : x ≠ "__name__" := by decide) (hd : (x == ("__debug__" : Str)) = false := by decide) : wpAny (model X.prog X.w) X.A (eval (.Name x pos) X.env) Q E s := by
  obtain ⟨mb, h1, h2⟩ := I.mod.blt
  exact Calls.Name_function_global I.ok.kind hg (Calls.loadGlobal_builtin (by rw [I.ok.glob]; exact I.mod.glob.keeps I.bk) hm (by rw [I.ok.blt]; exact h1.keeps I.bk) ((h2 x hn).trans hv) h) hd
theorem pe_glob {x : Str} {v : V} {u : Value} {pos : Pos} (hg : Gl X x) (hm : X.mg x = some u) (r : RelV v u) (hd : (x == ("__debug__" : Str)) = false := by decide) : PE X (.Name x pos) (tC v) :=
  fun _ _ _ H _ I h => ld_glob I hg hm ⟨v, H, I, r, h⟩ hd
theorem pe_bltn {x : Str} {v : V} {u : Value} {pos : Pos} (hg : Gl X x) (hm : X.mg x = none) (hv : bootBuiltins x = some u) (r : RelV v u) (hn : x ≠ "__name__" := by decide) (hd : (x == ("__debug__" : Str)) = false := by decide) : PE X (.Name x pos) (tC v) :=
  fun _ _ _ H _ I h => ld_blt I hg hm hv ⟨v, H, I, r, h⟩ hn hd

variable {a b : Expr} {ta tb : TE} {pos : Pos}

def PC (X : Cx) (op : CmpOp) (a b : Expr) (t : TE) : Prop :=
  ∀ (pins : List (Addr × Obj)) (s : Shared) (σ : St) (H : Hp) (Q : VK), Inv X pins σ H s → t σ H Q →
    wpAny (model X.prog X.w) X.A (eval a X.env) (fun v s₁ => wpAny (model X.prog X.w) X.A (eval b X.env) (fun u s₂ => wpAny (model X.prog X.w) X.A (compareOp op v u) (EP X pins σ Q) X.xe s₂) X.xe s₁) X.xe s
theorem nobehind (b : Expr) {op : CmpOp} (h : op ≠ .In) (h2 : op ≠ .NotIn) : behindInMarks op b = false := by
  have e1 : (op == CmpOp.In) = false := by cases op <;> first | rfl | exact absurd rfl h
  have e2 : (op == CmpOp.NotIn) = false := by cases op <;> first | rfl | exact absurd rfl h2
  cases b <;> simp [behindInMarks, e1, e2]
def tIsN (ta : TE) : TE := fun σ H Q => ta σ H fun x H1 => Q (.bl (decide (x = .non))) H1
def tNotN (ta : TE) : TE := fun σ H Q => ta σ H fun x H1 => Q (.bl (!decide (x = .non))) H1
theorem RelV.none_iff {x : V} {v : Value} (r : RelV x v) : (v == Value.none) = decide (x = .non) := by
  cases x with
  | non => cases r; rfl
  | bl _ => cases r; rfl
  | int _ => obtain ⟨t, rfl⟩ := r; rfl
  | str _ => obtain ⟨t, rfl⟩ := r; rfl
  | byt _ => obtain ⟨t, rfl⟩ := r; rfl
  | flt _ => obtain ⟨t, rfl⟩ := r; rfl
  | ref _ => cases r; rfl
  | ty _ => cases r; rfl
theorem pc_isN {j pos'} (ha : PE X a ta) : PC X .Is a (.Constant .none j pos') (tIsN ta) := by
  intro pins s σ H Q I h
  refine thn (ha pins s σ H _ I h) fun v s1 ⟨x, H1, I1, r1, q1⟩ => ?_
  exact Constant_none (is_none_gen ⟨.bl _, H1, I1, by rw [r1.none_iff]; rfl, q1⟩)
theorem pc_notN {j pos'} (ha : PE X a ta) : PC X .IsNot a (.Constant .none j pos') (tNotN ta) := by
  intro pins s σ H Q I h
  refine thn (ha pins s σ H _ I h) fun v s1 ⟨x, H1, I1, r1, q1⟩ => ?_
  exact Constant_none (isnot_none_gen ⟨.bl _, H1, I1, by rw [r1.none_iff]; rfl, q1⟩)
def tB (t : TE) : TT := fun σ H Q => t σ H fun x H1 => ∃ c, x = .bl c ∧ Q c H1
theorem pe_cmp {op : CmpOp} {t : TE} (h : PC X op a b t) (h1 : behindInMarks op b = false := by first | exact nobehind _ (by decide) (by decide) | rfl) : PE X (.Compare a [op] [b] pos) t := fun pins s σ H Q I hw => wpAny_Compare1 (h pins s σ H Q I hw) h1
theorem pt_cmp {op : CmpOp} {t : TE} (h : PC X op a b t) (h1 : behindInMarks op b = false := by first | exact nobehind _ (by decide) (by decide) | rfl) : PT X (.Compare a [op] [b] pos) (tB t) := by
  intro pins s σ H Q I hw
  refine wpAny_isTrue_Compare1 (thn (h pins s σ H _ I hw) fun v s1 h1 => thn h1 fun u s2 h2 => thn h2 fun c s3 ⟨x, H1, I1, r1, q1⟩ => ?_) h1
  obtain ⟨d, rfl, q⟩ := q1
  cases r1
  exact wpAny_truthy_bool ⟨H1, I1, q⟩
theorem pt_val {e : Expr} {t : TE} (h : PE X e t) (he : ∀ whole, isTrue e X.env whole = (do let v ← whole; standAt e.pos; holding [v] (truthy v)) := by intro _; rfl) : PT X e (tB t) := by
  intro pins s σ H Q I hw
  refine isTrue_plain (thn (h pins s σ H _ I hw) fun v s1 ⟨x, H1, I1, r1, q1⟩ => ?_) (he _)
  obtain ⟨d, rfl, q⟩ := q1
  cases r1
  exact wpAny_truthy_bool ⟨H1, I1, q⟩

variable {tA tB' : TT} {rest : List Expr}
def tAnd (t u : TT) : TT := fun σ H Q => t σ H fun c H1 => if c = true then u σ H1 Q else Q false H1
def tOr (t u : TT) : TT := fun σ H Q => t σ H fun c H1 => if c = true then Q true H1 else u σ H1 Q
def tNot (t : TT) : TT := fun σ H Q => t σ H fun c H1 => Q (!c) H1
theorem pw_and1 (ha : PT X a tA) : PW X (.BoolOp .And [a] pos) tA := by
  intro wh pins s σ H Q I h
  refine isTrue_and (thn (ha pins s σ H Q I h) fun c s1 e => ?_)
  cases c with
  | true => exact isTrue_and_nil e
  | false => exact e
theorem pw_or1 (ha : PT X a tA) : PW X (.BoolOp .Or [a] pos) tA := by
  intro wh pins s σ H Q I h
  refine isTrue_or (thn (ha pins s σ H Q I h) fun c s1 e => ?_)
  cases c with
  | false => exact isTrue_or_nil e
  | true => exact e
theorem pw_and (ha : PT X a tA) (hb : PW X (.BoolOp .And (b :: rest) pos) tB') : PW X (.BoolOp .And (a :: b :: rest) pos) (tAnd tA tB') := by
  intro wh pins s σ H Q I h
  refine isTrue_and (thn (ha pins s σ H _ I h) fun c s1 ⟨H1, I1, q1⟩ => ?_)
  cases c with
  | true => exact hb wh pins s1 σ H1 Q I1 q1
  | false => exact ⟨H1, I1, q1⟩
theorem pw_or (ha : PT X a tA) (hb : PW X (.BoolOp .Or (b :: rest) pos) tB') : PW X (.BoolOp .Or (a :: b :: rest) pos) (tOr tA tB') := by
  intro wh pins s σ H Q I h
  refine isTrue_or (thn (ha pins s σ H _ I h) fun c s1 ⟨H1, I1, q1⟩ => ?_)
  cases c with
  | true => exact ⟨H1, I1, q1⟩
  | false => exact hb wh pins s1 σ H1 Q I1 q1
theorem pt_not (ha : PT X a tA) : PT X (.UnaryOp .Not a pos) (tNot tA) := by
  intro pins s σ H Q I h
  exact isTrue_not (ha pins s σ H (fun c H1 => Q (!c) H1) I h)
def tAndV (ta tb : TE) : TE := fun σ H Q => ta σ H fun x H1 => ∃ c, x = .bl c ∧ if c = true then tb σ H1 Q else Q (.bl false) H1
def tOrV (ta tb : TE) : TE := fun σ H Q => ta σ H fun x H1 => ∃ c, x = .bl c ∧ if c = true then Q (.bl true) H1 else tb σ H1 Q
def tNotV (ta : TE) : TE := fun σ H Q => ta σ H fun x H1 => ∃ c, x = .bl c ∧ Q (.bl (!c)) H1
theorem pe_one {op} {t : TE} (h : PE X a t) : PE X (.BoolOp op [a] pos) t := fun pins s σ H Q I hw => BoolOp_one (h pins s σ H Q I hw)
theorem pe_and (ha : PE X a ta) (hb : PE X (.BoolOp .And (b :: rest) pos) tb) : PE X (.BoolOp .And (a :: b :: rest) pos) (tAndV ta tb) := by
  intro pins s σ H Q I h
  refine BoolOp_and (thn (ha pins s σ H _ I h) fun v s1 ⟨x, H1, I1, r1, q1⟩ => ?_)
  obtain ⟨c, rfl, q1⟩ := q1
  cases r1
  refine wpAny_truthy_bool ?_
  cases c with
  | true => exact hb pins s1 σ H1 Q I1 q1
  | false => exact ⟨.bl false, H1, I1, rfl, q1⟩
theorem pe_or (ha : PE X a ta) (hb : PE X (.BoolOp .Or (b :: rest) pos) tb) : PE X (.BoolOp .Or (a :: b :: rest) pos) (tOrV ta tb) := by
  intro pins s σ H Q I h
  refine BoolOp_or (thn (ha pins s σ H _ I h) fun v s1 ⟨x, H1, I1, r1, q1⟩ => ?_)
  obtain ⟨c, rfl, q1⟩ := q1
  cases r1
  refine wpAny_truthy_bool ?_
  cases c with
  | false => exact hb pins s1 σ H1 Q I1 q1
  | true => exact ⟨.bl true, H1, I1, rfl, q1⟩
theorem pe_not (ha : PE X a ta) : PE X (.UnaryOp .Not a pos) (tNotV ta) := by
  intro pins s σ H Q I h
  refine UnaryOp_ (thn (ha pins s σ H _ I h) fun v s1 ⟨x, H1, I1, r1, q1⟩ => ?_)
  obtain ⟨c, rfl, q1⟩ := q1
  cases r1
  exact not_of (wpAny_truthy_bool ⟨.bl (!c), H1, I1, rfl, q1⟩)
def tIf (t : TT) (ta tb : TE) : TE := fun σ H Q => t σ H fun c H1 => if c = true then ta σ H1 Q else tb σ H1 Q
theorem pe_ifExp {c : Expr} (hc : PT X c tA) (ha : PE X a ta) (hb : PE X b tb) : PE X (.IfExp c a b pos) (tIf tA ta tb) := by
  intro pins s σ H Q I h
  refine wpAny_IfExp (thn (hc pins s σ H _ I h) fun d s1 ⟨H1, I1, q1⟩ => ?_)
  cases d with
  | true => exact ha pins s1 σ H1 Q I1 q1
  | false => exact hb pins s1 σ H1 Q I1 q1
end
end L2

namespace L2
open PySem PySem.Spec PyProof.Rows

def SqL (K : PySem.W.Frag) (H : Hp) (a : Addr) (xs : List V) : Prop :=
  Rd H a (.lst xs) ∨
    ∃ (o : Obj) (its : Array Value) (n : Nat), K.lookup a = some o ∧ o.cls = .type "list" ∧ o.dict = none ∧ o.data = .seq its n ∧ its.size ≤ sizeLine ∧ Vals xs its.toList
def SqT (K : PySem.W.Frag) (H : Hp) (a : Addr) (xs : List V) : Prop :=
  Rd H a (.tup xs) ∨
    ∃ (o : Obj) (its : Array Value) (n : Nat), K.lookup a = some o ∧ o.cls = .type "tuple" ∧ o.data = .seq its n ∧ its.size ≤ sizeLine ∧ Vals xs its.toList
def absV : Value → Option V
  | .none => some .non
  | .bool b => some (.bl b)
  | .int i _ => some (.int i)
  | .str x _ => some (.str x)
  | .bytes b _ => some (.byt b)
  | .float b _ => some (.flt b)
  | .ref a => some (.ref a)
  | .type n => some (.ty n)
  | _ => none
theorem RelV.abs {x : V} {u : Value} (r : RelV x u) : absV u = some x := by
  cases x with
  | non => cases r; rfl
  | bl _ => cases r; rfl
  | int _ => obtain ⟨t, rfl⟩ := r; rfl
  | str _ => obtain ⟨t, rfl⟩ := r; rfl
  | byt _ => obtain ⟨t, rfl⟩ := r; rfl
  | flt _ => obtain ⟨t, rfl⟩ := r; rfl
  | ref _ => cases r; rfl
  | ty _ => cases r; rfl
theorem RelV.inj {x y : V} {u : Value} (r : RelV x u) (q : RelV y u) : x = y := Option.some.inj (r.abs.symm.trans q.abs)
theorem Vals.inj : ∀ {xs ys : List V} {us : List Value}, Vals xs us → Vals ys us → xs = ys
  | _, _, _, .nil, .nil => rfl
  | _, _, _, .cons r t, .cons r' t' => by rw [r.inj r', Vals.inj t t']
section
variable {X : Cx} {pins : List (Addr × Obj)} {σ : St} {H : Hp} {s : Shared} {a : Addr} {xs ys : List V}
theorem SqL.of {K : PySem.W.Frag} (h : H a = some (.lst xs)) : SqL K H a xs := .inl (.inl h)
theorem SqT.of {K : PySem.W.Frag} (h : H a = some (.tup xs)) : SqT K H a xs := .inl (.inl h)
theorem Inv.list (I : Inv X pins σ H s) (h : SqL X.K H a xs) : ∃ its : List Value, Vals xs its ∧ PlainL s.heap a its.toArray ∧ xs.length ≤ sizeLine := by
  rcases h with h | ⟨o, its, n, hk, hc, hd, hs, hz, r⟩
  · obtain ⟨z, its, n, r, e⟩ := h.ok I.hok
    exact ⟨its, r, ⟨_, n, e, rfl, rfl, rfl⟩, z⟩
  · refine ⟨its.toList, r, ⟨o, n, I.kIn a o hk, hc, hd, by simpa using hs⟩, ?_⟩
    have e := r.length
    simp only [Array.length_toList] at e
    omega
theorem Inv.tuple (I : Inv X pins σ H s) (h : SqT X.K H a xs) : ∃ its : List Value, Vals xs its ∧ IsTup s.heap a its.toArray ∧ xs.length ≤ sizeLine := by
  rcases h with h | ⟨o, its, n, hk, hc, hs, hz, r⟩
  · obtain ⟨z, its, r, p⟩ := h.ok I.hok
    exact ⟨its, r, p, z⟩
  · refine ⟨its.toList, r, ⟨o, I.kIn a o hk, hc, n, by simpa using hs⟩, ?_⟩
    have e := r.length
    simp only [Array.length_toList] at e
    omega
theorem Inv.list_inj (I : Inv X pins σ H s) (h : SqL X.K H a xs) (h' : SqL X.K H a ys) : xs = ys := by
  obtain ⟨its, r, ⟨o, n, e, _, _, d⟩, _⟩ := I.list h
  obtain ⟨its', r', ⟨o', n', e', _, _, d'⟩, _⟩ := I.list h'
  rw [e] at e'; cases e'
  rw [d] at d'
  injection d' with d1 _
  have : its = its' := by simpa using congrArg Array.toList d1
  subst this
  exact r.inj r'
theorem Inv.tuple_inj (I : Inv X pins σ H s) (h : SqT X.K H a xs) (h' : SqT X.K H a ys) : xs = ys := by
  obtain ⟨its, r, ⟨o, e, _, n, d⟩, _⟩ := I.tuple h
  obtain ⟨its', r', ⟨o', e', _, n', d'⟩, _⟩ := I.tuple h'
  rw [e] at e'; cases e'
  rw [d] at d'
  injection d' with d1 _
  have : its = its' := by simpa using congrArg Array.toList d1
  subst this
  exact r.inj r'
end

abbrev Cx.wish (X : Cx) (E : Value → Shared → Prop) : Cx := { X with xe := E }
abbrev Cx.nox (X : Cx) : Cx := X.wish fun _ _ => False
theorem Cx.Ok.wish {X : Cx} (ok : X.Ok) (E : Value → Shared → Prop) : (X.wish E).Ok :=
  ⟨ok.mod, ok.kind, ok.glob, ok.blt, ok.above, ok.inj, ok.has, ok.cab, ok.hd, ok.frames, ok.stk, ok.exf, ok.bs, ok.bsz, ok.noex, ok.exfs, ok.funs, ok.frf⟩
theorem Cx.Ok.unwish {X : Cx} {E : Value → Shared → Prop} (ok : (X.wish E).Ok) : X.Ok :=
  ⟨ok.mod, ok.kind, ok.glob, ok.blt, ok.above, ok.inj, ok.has, ok.cab, ok.hd, ok.frames, ok.stk, ok.exf, ok.bs, ok.bsz, ok.noex, ok.exfs, ok.funs, ok.frf⟩
section
variable {X : Cx} {pins : List (Addr × Obj)} {σ : St} {H : Hp} {s : Shared} {E : Value → Shared → Prop}
theorem Inv.wish (I : Inv X pins σ H s) (E : Value → Shared → Prop) : Inv (X.wish E) pins σ H s := ⟨I.ok.wish E, I.os, I.bare, I.base, I.loc, I.cell, I.free, I.freeC, I.pin, I.hok, I.len⟩
theorem Inv.unwish (I : Inv (X.wish E) pins σ H s) : Inv X pins σ H s := ⟨I.ok.unwish, I.os, I.bare, I.base, I.loc, I.cell, I.free, I.freeC, I.pin, I.hok, I.len⟩
theorem SP.unwish {D : Ends} {f : Flow} {s' : Shared} (h : SP (X.wish E) pins D f s') : SP X pins D f s' := by
  cases f with
  | next => obtain ⟨σ', H', I, q⟩ := h; exact ⟨σ', H', I.unwish, q⟩
  | brk => obtain ⟨σ', H', I, q⟩ := h; exact ⟨σ', H', I.unwish, q⟩
  | cont => obtain ⟨σ', H', I, q⟩ := h; exact ⟨σ', H', I.unwish, q⟩
  | ret u => obtain ⟨v, σ', H', I, r, q⟩ := h; exact ⟨v, σ', H', I.unwish, r, q⟩
theorem PE.nox {e : Expr} {t : TE} (h : PE X.nox e t) : PE X e t := fun pins s σ H Q I hw =>
  wpAny_mono (h pins s σ H Q (I.wish _) hw) (fun _ _ ⟨v, H', I', r, q⟩ => ⟨v, H', I'.unwish, r, q⟩) fun _ _ z => False.elim z
theorem PT.nox {e : Expr} {t : TT} (h : PT X.nox e t) : PT X e t := fun pins s σ H Q I hw =>
  wpAny_mono (h pins s σ H Q (I.wish _) hw) (fun _ _ ⟨H', I', q⟩ => ⟨H', I'.unwish, q⟩) fun _ _ z => False.elim z
theorem PSs.nox {st : List Stmt} {t : TS} (h : PSs X.nox st t) : PSs X st t := fun pins s σ H D I hw =>
  wpAny_mono (h pins s σ H D (I.wish _) hw) (fun _ _ q => q.unwish) fun _ _ z => False.elim z
end

section
variable {X : Cx} {st : Stmt} {rest : List Stmt} {t u : TS} {e : Expr} {te : TE} {pos : Pos}
def tNext : TS := fun D σ H => D.nx σ H
def tSeq (t u : TS) : TS := fun D σ H => t { D with nx := u D } σ H
theorem pss_nil : PSs X [] tNext := fun _ _ σ H _ I h => wpAny_execs_nil ⟨σ, H, I, h⟩
theorem pss_cons (h1 : PS X st t) (h2 : PSs X rest u) : PSs X (st :: rest) (tSeq t u) := by
  intro pins s σ H D I h
  refine wpAny_execs_cons (thn (h1 pins s σ H { D with nx := u D } I h) fun f s1 q => ?_)
  cases f with
  | next =>
    obtain ⟨σ', H', I', q⟩ := q
    exact h2 pins s1 σ' H' D I' q
  | ret v => exact q
  | brk => exact q
  | cont => exact q
theorem pss_one (h1 : PS X st t) : PSs X [st] t := by
  intro pins s σ H D I h
  refine wpAny_execs_cons (thn (h1 pins s σ H D I h) fun f s1 q => ?_)
  cases f with
  | next => exact wpAny_execs_nil q
  | ret v => exact q
  | brk => exact q
  | cont => exact q
theorem Inv.quiet {pins : List (Addr × Obj)} {σ : St} {H : Hp} {s : Shared} (I : Inv X pins σ H s) : interactive X.env = false := by simp [interactive, I.ok.kind]
def tDrop (te : TE) : TS := fun D σ H => te σ H fun _ H1 => D.nx σ H1
theorem ps_expr (he : PE X e te) (hs : swapsWith e none pos.line X.env = pure false := by rfl) : PS X (.Expr e pos) (tDrop te) := by
  intro pins s σ H D I h
  exact wpAny_Expr_any (thn (he pins s σ H _ I h) fun v s1 ⟨x, H1, I1, r1, q1⟩ => ⟨σ, H1, I1, q1⟩) I.quiet hs
def tRet (te : TE) : TS := fun D σ H => te σ H D.rt
theorem ps_ret (he : PE X e te) : PS X (.Return (some e) pos) (tRet te) := by
  intro pins s σ H D I h
  exact wpAny_Return_some (thn (he pins s σ H _ I h) fun v s1 ⟨x, H1, I1, r1, q1⟩ => ⟨x, σ, H1, I1, r1, q1⟩)
def tIfS (c : TT) (t u : TS) : TS := fun D σ H => c σ H fun b H1 => if b = true then t D σ H1 else u D σ H1
theorem ps_if {c : Expr} {a b : List Stmt} {tc : TT} (hc : PT X c tc) (ha : PSs X a t) (hb : PSs X b u) : PS X (.If c a b pos) (tIfS tc t u) := by
  intro pins s σ H D I h
  refine wpAny_If (thn (hc pins s σ H _ I h) fun d s1 ⟨H1, I1, q1⟩ => ?_)
  cases d with
  | true => exact ha pins s1 σ H1 D I1 q1
  | false => exact hb pins s1 σ H1 D I1 q1
def tNever : TS := fun _ _ _ => False
theorem ps_never : PS X st tNever := fun _ _ _ _ _ _ h => h.elim
end

abbrev TG := V → St → Hp → (St → Hp → Prop) → Prop
abbrev TGs := List V → St → Hp → (St → Hp → Prop) → Prop
def PG (X : Cx) (target : Expr) (t : TG) : Prop :=
  ∀ (pins : List (Addr × Obj)) (s : Shared) (σ : St) (H : Hp) (v : V) (u : Value) (Q : St → Hp → Prop), Inv X pins σ H s → RelV v u → t v σ H Q →
    wpAny (model X.prog X.w) X.A (assign target X.env u) (fun _ s' => ∃ σ' H', Inv X pins σ' H' s' ∧ Q σ' H') X.xe s
def PGs (X : Cx) (ts : List Expr) (t : TGs) : Prop :=
  ∀ (pins : List (Addr × Obj)) (s : Shared) (σ : St) (H : Hp) (vs : List V) (us : List Value) (Q : St → Hp → Prop), Inv X pins σ H s → Vals vs us → t vs σ H Q →
    wpAny (model X.prog X.w) X.A (assignInOrder ((assignEach ts X.env).map (·.2)) us) (fun _ s' => ∃ σ' H', Inv X pins σ' H' s' ∧ Q σ' H') X.xe s
abbrev TSet := V → V → V → Hp → (Hp → Prop) → Prop
def PSet (X : Cx) (t : TSet) : Prop :=
  ∀ (pins : List (Addr × Obj)) (s : Shared) (σ : St) (H : Hp) (o i v : V) (ov iv u : Value) (Q : Hp → Prop), Inv X pins σ H s → RelV o ov → RelV i iv → RelV v u → t o i v H Q →
    wpAny (model X.prog X.w) X.A (setItem ov iv u) (fun _ s' => ∃ H', Inv X pins σ H' s' ∧ Q H') X.xe s
section
variable {X : Cx} {pos : Pos}
def gName (i : Nat) : TG := fun v σ H Q => Q (σ.set i (some v)) H
theorem pg_name {i : Nat} {x : Str} (hN : X.N.Nodup) (hi : X.N[i]? = some x) (hx : Loc X.env.scope x) (hf : X.fn x = true ∨ X.env.scope.names.lookup x = some .local := by first | exact .inl rfl | exact .inr rfl | assumption) : PG X (.Name x pos) (gName i) := by
  intro pins s σ H v u Q I r h
  exact wpAny_assign_Name (store_ok I hN hi hx r (fun s' I' => ⟨_, H, I', h⟩) hf)
def gNil : TGs := fun vs σ H Q => vs = [] ∧ Q σ H
def gCons (t : TG) (u : TGs) : TGs := fun vs σ H Q => ∃ v r, vs = v :: r ∧ t v σ H fun σ' H' => u r σ' H' Q
theorem pgs_nil : PGs X [] gNil := by
  intro pins s σ H vs us Q I r h
  obtain ⟨e, h⟩ := h
  subst e
  cases r
  exact assignInOrder_nil ⟨σ, H, I, h⟩
theorem pgs_cons {e : Expr} {es : List Expr} {t : TG} {u : TGs} (h1 : PG X e t) (h2 : PGs X es u)
    (hs : (assignEach (e :: es) X.env).map (·.2) = assign e X.env :: (assignEach es X.env).map (·.2) := by rfl) : PGs X (e :: es) (gCons t u) := by
  intro pins s σ H vs us Q I r h
  obtain ⟨v, vr, e1, h⟩ := h
  subst e1
  cases r with
  | cons r rr =>
    rw [hs]
    refine assignInOrder_cons (thn (h1 pins s σ H _ _ _ I r h) fun _ s1 ⟨σ1, H1, I1, q1⟩ => ?_)
    exact h2 pins s1 σ1 H1 _ _ Q I1 rr q1
def gTup (K : PySem.W.Frag) (n : Nat) (t : TGs) : TG := fun v σ H Q => ∃ a xs, v = .ref a ∧ SqT K H a xs ∧ xs.length = n ∧ t xs σ H Q
theorem pg_tup {es : List Expr} {k : Nat} {t : TGs} {n : Nat} (hc : X.calm = true) (h : PGs X es t)
    (hn : (assignEach es X.env).length = n := by rfl) (hst : (assignEach es X.env).findIdx? (·.1) = none := by rfl) : PG X (.Tuple es k pos) (gTup X.K n t) := by
  intro pins s σ H v u Q I r hw
  obtain ⟨a, xs, e1, hq, hl, hw⟩ := hw
  subst e1
  cases r
  obtain ⟨its, rv, ht, hz⟩ := I.tuple hq
  refine assign_Tuple_tuple (I.ok.hd hc) ht (by simp [hn, ← hl, rv.length]) hst fun h' hx => ?_
  have I1 : Inv X pins σ H { s with heap := h' } := I.kept (t' := s.toks) fun b o e => hx b o (Nat.ne_of_lt (Heap.lt_size e)) e
  exact h pins _ σ H xs _ Q I1 (by simpa using rv) hw
def gSub (to ti : TE) (t : TSet) : TG := fun v σ H Q => to σ H fun o H1 => ti σ H1 fun i H2 => t o i v H2 fun H3 => Q σ H3
theorem pg_sub {o i : Expr} {to ti : TE} {t : TSet} (ho : PE X o to) (hi : PE X i ti) (hs : PSet X t)
    (ha : ∀ v, assign (.Subscript o i pos) X.env v = (do
      let ov ← holding [v] (eval o X.env)
      let iv ← holding [v, ov] (eval i X.env)
      standAt pos
      holding [v, ov, iv] (setItem ov iv v)
      release [v, ov, iv] []) := by intro _; rfl) : PG X (.Subscript o i pos) (gSub to ti t) := by
  intro pins s σ H v u Q I r h
  rw [ha]
  refine wpAny_bind (wpAny_holding (thn (ho pins s σ H _ I h) fun ov s1 ⟨x, H1, I1, r1, q1⟩ => ?_))
  refine wpAny_bind (wpAny_holding (thn (hi pins s1 σ H1 _ I1 q1) fun iv s2 ⟨y, H2, I2, r2, q2⟩ => ?_))
  refine wpAny_bind (wpAny_standAt (wpAny_bind (wpAny_holding (thn (hs pins s2 σ H2 x y v ov iv u _ I2 r1 r2 r q2) fun _ s3 ⟨H3, I3, q3⟩ => ?_))))
  exact wpAny_release ⟨σ, H3, I3, q3⟩
def tAsg (te : TE) (g : TG) : TS := fun D σ H => te σ H fun x H1 => g x σ H1 D.nx
theorem ps_asg {tg e : Expr} {te : TE} {g : TG} (he : PE X e te) (hg : PG X tg g) (hs : swapsWithSole [tg] e pos.line X.env = pure false := by rfl) (hw : swappedStores [tg] e X.env = pure none := by rfl)
    (h1 : (assignEach [tg] X.env).map (·.2) = [assign tg X.env] := by rfl) : PS X (.Assign [tg] e pos) (tAsg te g) := by
  intro pins s σ H D I h
  refine wpAny_Assign_stores (thn (he pins s σ H _ I h) fun v s1 ⟨x, H1, I1, r1, q1⟩ => ?_) hs hw
  rw [h1]
  exact thn (hg pins s1 σ H1 x v _ I1 r1 q1) fun _ s2 q => q
theorem ps_set {i : Nat} {x : Str} {e : Expr} {te : TE} {pos' : Pos} (hN : X.N.Nodup) (hi : X.N[i]? = some x) (hx : Loc X.env.scope x) (he : PE X e te) (hs : swapsWith e (some (.Name x pos')) pos.line X.env = pure false := by rfl) (hf : X.fn x = true ∨ X.env.scope.names.lookup x = some .local := by first | exact .inl rfl | exact .inr rfl | assumption) :
    PS X (.Assign [.Name x pos'] e pos) (tAsg te (gName i)) := by
  intro pins s σ H D I h
  refine wpAny_Assign_Name (thn (he pins s σ H _ I h) fun v s1 ⟨y, H1, I1, r1, q1⟩ => ?_) hs
  exact store_ok I1 hN hi hx r1 (fun s2 I2 => ⟨_, H1, I2, q1⟩) hf
def tPar (i j : Nat) (ta : TA) : TS := fun D σ H => ta σ H fun vs H1 => ∃ v w, vs = [v, w] ∧ D.nx ((σ.set i (some v)).set j (some w)) H1
theorem ps_par {i j : Nat} {x y : Str} {a b : Expr} {ta : TA} {px py pt : Pos} {kt k2 pt2} (hc : X.calm = true) (hN : X.N.Nodup) (hi : X.N[i]? = some x) (hj : X.N[j]? = some y) (hij : i ≠ j)
    (hx : X.env.scope.names.lookup x = some .local) (hy : X.env.scope.names.lookup y = some .local) (ha : PA X [a, b] ta)
    (hw : swappedStores [.Tuple [.Name x px, .Name y py] kt pt] (.Tuple [a, b] k2 pt2) X.env = pure (some [x, y]))
    (hs : swapsWithSole [.Tuple [.Name x px, .Name y py] kt pt] (.Tuple [a, b] k2 pt2) pos.line X.env = pure false := by rfl) :
    PS X (.Assign [.Tuple [.Name x px, .Name y py] kt pt] (.Tuple [a, b] k2 pt2) pos) (tPar i j ta) := by
  intro pins s σ H D I h
  rw [exec_Assign_arm]
  refine wpAny_bind (wpAny_standAt ?_)
  rw [hs]
  refine wpAny_bind (wpAny_pure ?_)
  rw [if_neg (by decide)]
  refine wpAny_bind (Tuple_ (thn (ha _ pins s σ H _ I h) fun us s1 ⟨vs, H1, I1, r1, q1⟩ => ?_))
  obtain ⟨v, w, e1, q1⟩ := q1
  subst e1
  obtain ⟨u1, u2, rfl, rv, rw'⟩ : ∃ u1 u2, us = [u1, u2] ∧ RelV v u1 ∧ RelV w u2 := by
    cases r1 with
    | cons p q =>
      cases q with
      | cons p' q' =>
        cases q'
        exact ⟨_, _, rfl, p, p'⟩
  refine wpAny_newObj_type ?_ (by show 2 ≤ sizeLine; decide)
  have I2 : Inv X pins σ H1 { s1 with heap := s1.heap.push { cls := .type "tuple", data := .seq [u1, u2].toArray } } := I1.kept (t' := s1.toks) fun b o e => Heap.get?_push_of_some _ e
  rw [hw]
  refine wpAny_bind (wpAny_pure ?_)
  show wpAny (model X.prog X.w) X.A (do rule "assign.swapped-stores"; let items ← unpackItems (.ref s1.heap.objs.size) 2 none; assignInOrder [fun v => bindName X.env y v, fun v => bindName X.env x v] items.reverse; pure Flow.next) _ _ _
  refine wpAny_bind (wpAny_rule (wpAny_bind (unpackItems_tuple (items := #[u1, u2]) (I.ok.hd hc) (IsTup.new s1.heap _) fun h' hx' => ?_)))
  have I3 := I2.kept (h' := h') (t' := s1.toks) fun b o e => hx' b o (Nat.ne_of_lt (Heap.lt_size e)) e
  show wpAny _ _ (assignInOrder [fun v => bindName X.env y v, fun v => bindName X.env x v] [u2, u1] >>= fun _ => pure Flow.next) _ _ _
  refine wpAny_bind (assignInOrder_cons (wpAny_bindName (store_ok I3 hN hj (.inl hy) rw' (fun s2 I4 => ?_) (.inr hy))))
  refine assignInOrder_cons (wpAny_bindName (store_ok I4 hN hi (.inl hx) rv (fun s3 I5 => assignInOrder_nil (wpAny_pure ?_)) (.inr hx)))
  rw [List.set_comm _ _ (Ne.symm hij)] at I5
  exact ⟨_, H1, I5, q1⟩
end

section
variable {X : Cx} {pos : Pos}
end

structure It where
  go : Nat → Hp → Prop
  yld : Nat → Hp → V → Hp → Prop
  stop : Nat → Hp → Prop
def FpOk (X : Cx) (pins : List (Addr × Obj)) (H : Hp) (b : Addr) : Prop :=
  H b = none ∧ b ≠ X.env.locals ∧ b ∉ X.fs ∧ (b ∈ X.ex ∨ X.s₀.heap.objs.size ≤ b) ∧ (∀ x c, X.env.cells.lookup x = some c → c ≠ b) ∧ ∀ p ∈ X.pn ++ pins, p.1 ≠ b
theorem Inv.fpOk {X : Cx} {pins : List (Addr × Obj)} {σ : St} {H H' : Hp} {s : Shared} {b : Addr} (I : Inv X pins σ H s) (hb : s.heap.objs.size ≤ b) (hn : H' b = none) : FpOk X pins H' b := by
  refine ⟨hn, Nat.ne_of_gt (Nat.lt_of_lt_of_le I.lt hb), I.nofs hb, .inr (Nat.le_trans I.sz hb), fun x c e z => ?_, fun p hp z => ?_⟩
  · obtain ⟨v, q⟩ := I.cell x c e
    exact absurd (Nat.lt_of_lt_of_le q.lt (by rw [z]; exact hb)) (Nat.lt_irrefl _)
  · exact absurd (Nat.lt_of_lt_of_le (Heap.lt_size (I.pin p hp).1) (by rw [z]; exact hb)) (Nat.lt_irrefl _)
structure Turn (P : Program) (w : World) (K : PySem.W.Frag) (tg : Expr) (J : It) (fp : List Addr) (it : Addr) (tn : Nat → Heap → Prop) : Prop where
  mem : it ∈ fp
  obj : ∀ i h, tn i h → ∀ b ∈ fp, ∃ o, h.get? b = some o ∧ ∀ v, o.data ≠ .cell v
  keep : ∀ i h h', tn i h → (∀ b ∈ fp, ∀ o, h.get? b = some o → h'.get? b = some o) → tn i h'
  item : ∀ (X : Cx), X.prog = P → X.w = w → X.K = K → X.calm = true → ∀ (i : Nat) (pins : List (Addr × Obj)) (s : Shared) (σ : St) (H : Hp) (E : Value → Shared → Prop), Inv X pins σ H s → (∀ b ∈ fp, FpOk X pins H b) → tn i s.heap → J.go i H →
    wpAny (model P w) X.A (pyNext (.ref it)) (fun r s1 => ∃ u, r = some u ∧
      wpAny (model P w) X.A (letOwnedTupleGo tg (.ref it) u) (fun _ s2 => ∃ x H', Inv X pins σ H' s2 ∧ RelV x u ∧ J.yld i H x H' ∧ tn (i + 1) s2.heap ∧ ∀ b ∈ fp, H' b = none) E s1) E s
  done : ∀ (X : Cx), X.prog = P → X.w = w → X.K = K → X.calm = true → ∀ (i : Nat) (pins : List (Addr × Obj)) (s : Shared) (σ : St) (H : Hp) (E : Value → Shared → Prop), Inv X pins σ H s → (∀ b ∈ fp, FpOk X pins H b) → tn i s.heap → J.stop i H →
    wpAny (model P w) X.A (pyNext (.ref it)) (fun r s1 => r = none ∧ Inv X pins σ H s1) E s
  self : ∀ (A : Around) (i : Nat) (s : Shared) (Q : Value → Shared → Prop) (E : Value → Shared → Prop), tn i s.heap → Q (.ref it) s → wpAny (model P w) A (pyIter (.ref it)) Q E s
abbrev TI := St → Hp → (It → Hp → Prop) → Prop
def PIE (X : Cx) (pins : List (Addr × Obj)) (σ : St) (tg : Expr) (R : It → Hp → Prop) (itv : Value) (s2 : Shared) : Prop :=
  ∃ (it : Addr) (fp : List Addr) (tn : Nat → Heap → Prop) (J : It) (H' : Hp), itv = .ref it ∧ Inv X pins σ H' s2 ∧ Turn X.prog X.w X.K tg J fp it tn ∧ tn 0 s2.heap ∧ (∀ b ∈ fp, FpOk X pins H' b) ∧ R J H'
def PI (X : Cx) (tg iter : Expr) (wi : TI) : Prop :=
  ∀ (pins : List (Addr × Obj)) (s : Shared) (σ : St) (H : Hp) (R : It → Hp → Prop), Inv X pins σ H s → wi σ H R →
    wpAny (model X.prog X.w) X.A (eval iter X.env) (fun v s1 => wpAny (model X.prog X.w) X.A (pyIter v) (PIE X pins σ tg R) X.xe s1) X.xe s

theorem go_of {M : Model} {A : Around} {E : Value → Shared → Prop} {s : Shared} {tg : Expr} {it : Addr} {u : Value} {o : Obj} {n : String} {vs : Array Value} {Q : Unit → Shared → Prop} (ho : s.heap.get? it = some o) (hc : o.cls = .type n) (hd : o.data = .fields vs)
    (hn : ["enumerate", "zip", "dict_itemiterator", "dict_reverseitemiterator", "odict_iterator", "itertools.zip_longest", "itertools.pairwise"].contains n = false) (hQ : Q () s) : wpAny M A (letOwnedTupleGo tg (.ref it) u) Q E s := by
  unfold letOwnedTupleGo
  cases tg <;> first
    | exact wpAny_pure hQ
    | (cases u <;> first
        | exact wpAny_pure hQ
        | (refine wpAny_bind (wpAny_load ho ?_)
           rw [hc, hd]
           show wpAny M A (if (["enumerate", "zip", "dict_itemiterator", "dict_reverseitemiterator", "odict_iterator", "itertools.zip_longest", "itertools.pairwise"].contains n && vs[0]? == some (rawInt _)) = true then _ else _) Q E s
           rw [if_neg (by intro h; rw [hn, Bool.false_and] at h; cases h)]
           exact wpAny_pure hQ))

def Itl (K : PySem.W.Frag) (a : Addr) : It :=
  ⟨fun i H => ∃ xs x, SqL K H a xs ∧ xs[i]? = some x, fun i H x H' => H' = H ∧ ∀ xs, SqL K H a xs → xs[i]? = some x, fun i H => ∃ xs, SqL K H a xs ∧ xs.length ≤ i⟩
def Itt (K : PySem.W.Frag) (a : Addr) : It :=
  ⟨fun i H => ∃ xs x, SqT K H a xs ∧ xs[i]? = some x, fun i H x H' => H' = H ∧ ∀ xs, SqT K H a xs → xs[i]? = some x, fun i H => ∃ xs, SqT K H a xs ∧ xs.length ≤ i⟩
def Itr (lo : Int) (n : Nat) : It := ⟨fun i _ => i < n, fun i H x H' => H' = H ∧ x = .int (lo + i), fun i _ => n ≤ i⟩
theorem turn_list {P : Program} {w : World} {K : PySem.W.Frag} {tg : Expr} (a it : Addr) : Turn P w K tg (Itl K a) [it] it (fun i h => h.IsListIter it a i) where
  mem := by simp
  obj := fun i h st b hb => by
    have e : b = it := by simpa using hb
    subst e
    obtain ⟨o, e, c, d⟩ := st
    exact ⟨o, e, fun v z => by rw [d] at z; cases z⟩
  keep := fun i h h' st k => st.at fun o e => k it (by simp) o e
  item := by
    intro X hP hw hK hc i pins s σ H E I hf st hg
    subst hP hw hK
    obtain ⟨xs, x, hq, hx⟩ := hg
    obtain ⟨its, rv, p, hz⟩ := I.list hq
    obtain ⟨u, hu, ru⟩ := rv.get hx
    obtain ⟨f0, f1, f2, f3, f4, f5⟩ := hf it (by simp)
    refine wpAny_pyNext_list_item st p.isList (x := u) (by simpa using hu) fun h' st' sb => ?_
    have I1 : Inv X pins σ H { s with heap := h' } := I.turned (t' := s.toks) (fun b o hb e => (sb.2 b hb).trans e) f0 f1 f3 f4 f5
    obtain ⟨o, e, c, d⟩ := id st'
    exact ⟨u, rfl, go_of (s := { s with heap := h' }) e c d (by decide) ⟨x, H, I1, ru, ⟨rfl, fun ys hy => by rw [I.list_inj hy hq]; exact hx⟩, st', fun b hb => (hf b hb).1⟩⟩
  done := by
    intro X hP hw hK hc i pins s σ H E I hf st hg
    subst hP hw hK
    obtain ⟨xs, hq, hx⟩ := hg
    obtain ⟨its, rv, p, hz⟩ := I.list hq
    obtain ⟨f0, f1, f2, f3, f4, f5⟩ := hf it (by simp)
    have hl := rv.length
    exact wpAny_pyNext_list_end (I.ok.hd hc) st p.isList (by simp; omega) fun h' eb => ⟨rfl, I.turned (t' := s.toks) (fun b o hb e => eb b o hb e) f0 f1 f3 f4 f5⟩
  self := fun _ _ _ _ _ st h => wpAny_pyIter_listiter st h
theorem turn_tuple {P : Program} {w : World} {K : PySem.W.Frag} {tg : Expr} (a it : Addr) : Turn P w K tg (Itt K a) [it] it (fun i h => h.IsTupleIter it a i) where
  mem := by simp
  obj := fun i h st b hb => by
    have e : b = it := by simpa using hb
    subst e
    obtain ⟨o, e, c, d⟩ := st
    exact ⟨o, e, fun v z => by rw [d] at z; cases z⟩
  keep := fun i h h' st k => st.at fun o e => k it (by simp) o e
  item := by
    intro X hP hw hK hc i pins s σ H E I hf st hg
    subst hP hw hK
    obtain ⟨xs, x, hq, hx⟩ := hg
    obtain ⟨its, rv, p, hz⟩ := I.tuple hq
    obtain ⟨u, hu, ru⟩ := rv.get hx
    obtain ⟨f0, f1, f2, f3, f4, f5⟩ := hf it (by simp)
    refine wpAny_pyNext_tuple_item st (show s.heap.IsTuple a its.toArray from p) (x := u) (by simpa using hu) fun h' st' sb => ?_
    have I1 : Inv X pins σ H { s with heap := h' } := I.turned (t' := s.toks) (fun b o hb e => (sb.2 b hb).trans e) f0 f1 f3 f4 f5
    obtain ⟨o, e, c, d⟩ := id st'
    exact ⟨u, rfl, go_of (s := { s with heap := h' }) e c d (by decide) ⟨x, H, I1, ru, ⟨rfl, fun ys hy => by rw [I.tuple_inj hy hq]; exact hx⟩, st', fun b hb => (hf b hb).1⟩⟩
  done := by
    intro X hP hw hK hc i pins s σ H E I hf st hg
    subst hP hw hK
    obtain ⟨xs, hq, hx⟩ := hg
    obtain ⟨its, rv, p, hz⟩ := I.tuple hq
    obtain ⟨f0, f1, f2, f3, f4, f5⟩ := hf it (by simp)
    have hl := rv.length
    exact wpAny_pyNext_tuple_end (I.ok.hd hc) st (show s.heap.IsTuple a its.toArray from p) (by simp; omega) fun h' eb => ⟨rfl, I.turned (t' := s.toks) (fun b o hb e => eb b o hb e) f0 f1 f3 f4 f5⟩
  self := fun _ _ _ _ _ st h => wpAny_pyIter_tupleiter st h
theorem turn_range {P : Program} {w : World} {K : PySem.W.Frag} {tg : Expr} (it : Addr) (lo : Int) (n : Nat) : Turn P w K tg (Itr lo n) [it] it (fun i h => IsRangeIter h it (lo + (i : Nat) * 1) ((n : Int) - (i : Nat)) 1) where
  mem := by simp
  obj := fun i h st b hb => by
    have e : b = it := by simpa using hb
    subst e
    exact ⟨_, st, fun v z => by
      have z' : Data.fields _ = Data.cell v := z
      cases z'⟩
  keep := fun i h h' st k => k it (by simp) _ st
  item := by
    intro X hP hw hK hc i pins s σ H E I hf st hg
    subst hP hw hK
    obtain ⟨f0, f1, f2, f3, f4, f5⟩ := hf it (by simp)
    have W := Walks.range (prog := X.prog) (w := X.w) (I.ok.hd hc) it lo 1 n
    refine W.item i s _ _ hg st fun v h' tk hv st' kk => ?_
    obtain ⟨t, rfl⟩ := hv
    have I1 : Inv X pins σ H { s with heap := h', toks := tk } := I.turned (fun b o hb e => kk b o (by simpa using hb) e) f0 f1 f3 f4 f5
    refine ⟨_, rfl, go_of (s := { s with heap := h', toks := tk }) (n := "range_iterator") st' rfl rfl (by decide) ⟨.int (lo + i), H, I1, ⟨t, ?_⟩, ⟨rfl, rfl⟩, st', fun b hb => (hf b hb).1⟩⟩
    rw [Int.mul_one]
  done := by
    intro X hP hw hK hc i pins s σ H E I hf st hg
    subst hP hw hK
    obtain ⟨f0, f1, f2, f3, f4, f5⟩ := hf it (by simp)
    exact wpAny_pyNext_range_end (I.ok.hd hc) st (by have : n ≤ i := hg; omega) fun h' eb => ⟨rfl, I.turned (t' := s.toks) (fun b o hb e => eb b o hb e) f0 f1 f3 f4 f5⟩
  self := fun _ _ _ _ _ st h => wpAny_pyIter_rangeiter st h
end L2

namespace L2
open PySem PySem.Spec PyProof.Rows
section
variable {X : Cx} {tg : Expr}
def iList (K : PySem.W.Frag) (tl : TE) : TI := fun σ H R => tl σ H fun x H1 => ∃ a, x = .ref a ∧ (∃ xs, SqL K H1 a xs) ∧ R (Itl K a) H1
def iTup (K : PySem.W.Frag) (tl : TE) : TI := fun σ H R => tl σ H fun x H1 => ∃ a, x = .ref a ∧ (∃ xs, SqT K H1 a xs) ∧ R (Itt K a) H1
theorem pi_list {l : Expr} {tl : TE} (hl : PE X l tl) : PI X tg l (iList X.K tl) := by
  intro pins s σ H R I h
  refine thn (hl pins s σ H _ I h) fun v s1 ⟨x, H1, I1, r1, q1⟩ => ?_
  obtain ⟨a, e, ⟨xs, hq⟩, q⟩ := q1
  subst e
  cases r1
  obtain ⟨its, rv, p, hz⟩ := I1.list hq
  refine wpAny_pyIter_list p.isList ?_
  refine ⟨s1.heap.objs.size, [s1.heap.objs.size], _, _, H1, rfl, I1.kept (t' := s1.toks) fun b o e => Heap.get?_push_of_some _ e, turn_list a _, ⟨_, Heap.get?_push_size _ rfl, rfl, rfl⟩, fun b hb => ?_, q⟩
  have e : b = s1.heap.objs.size := by simpa using hb
  subst e
  exact I1.fpOk (Nat.le_refl _) (I1.hok.fresh (Nat.le_refl _))
theorem pi_tup {l : Expr} {tl : TE} (hl : PE X l tl) : PI X tg l (iTup X.K tl) := by
  intro pins s σ H R I h
  refine thn (hl pins s σ H _ I h) fun v s1 ⟨x, H1, I1, r1, q1⟩ => ?_
  obtain ⟨a, e, ⟨xs, hq⟩, q⟩ := q1
  subst e
  cases r1
  obtain ⟨its, rv, p, hz⟩ := I1.tuple hq
  refine wpAny_pyIter_tuple (show s1.heap.IsTuple a its.toArray from p) ?_
  refine ⟨s1.heap.objs.size, [s1.heap.objs.size], _, _, H1, rfl, I1.kept (t' := s1.toks) fun b o e => Heap.get?_push_of_some _ e, turn_tuple a _, ⟨_, Heap.get?_push_size _ rfl, rfl, rfl⟩, fun b hb => ?_, q⟩
  have e : b = s1.heap.objs.size := by simpa using hb
  subst e
  exact I1.fpOk (Nat.le_refl _) (I1.hok.fresh (Nat.le_refl _))
theorem range_it {pins : List (Addr × Obj)} {σ : St} {H : Hp} {s : Shared} {R : It → Hp → Prop} {E : Value → Shared → Prop} {lo hi : Int} {t u v : Tok} {tk : Nat} (I : Inv X pins σ H s) (h1 : -(2 ^ 62) ≤ lo) (h2 : lo < 2 ^ 62) (h3 : -(2 ^ 62) ≤ hi) (h4 : hi < 2 ^ 62)
    (q : R (Itr lo (hi - lo).toNat) H) : wpAny (model X.prog X.w) X.A (pyIter (.ref s.heap.objs.size)) (PIE X pins σ tg R) E { s with heap := s.heap.push { cls := .type "range", data := .fields #[.int lo t, .int hi u, .int 1 v] }, toks := tk } := by
  refine wpAny_pyIter_range (IsRange.new ..) (small_one h1 h2 h3 h4) ?_
  have I1 : Inv X pins σ H { s with heap := s.heap.push { cls := .type "range", data := .fields #[.int lo t, .int hi u, .int 1 v] }, toks := tk } := I.kept fun b o e => Heap.get?_push_of_some _ e
  refine ⟨(s.heap.push { cls := .type "range", data := .fields #[.int lo t, .int hi u, .int 1 v] }).objs.size, [(s.heap.push { cls := .type "range", data := .fields #[.int lo t, .int hi u, .int 1 v] }).objs.size], _, _, H, rfl,
    I1.kept (t' := tk) fun b o e => Heap.get?_push_of_some _ e, turn_range _ lo (hi - lo).toNat, ?_, fun b hb => ?_, q⟩
  · have e1 : lo + ((0 : Nat) : Int) * 1 = lo := by simp
    have e2 : (((hi - lo).toNat : Nat) : Int) - ((0 : Nat) : Int) = Builtin.Range.rangeSize lo hi 1 := by rw [rangeSize_one]; split <;> omega
    show IsRangeIter _ _ (lo + ((0 : Nat) : Int) * 1) ((((hi - lo).toNat : Nat) : Int) - ((0 : Nat) : Int)) 1
    rw [e1, e2]
    exact Heap.get?_push_size _ rfl
  · have e : b = (s.heap.push { cls := .type "range", data := .fields #[.int lo t, .int hi u, .int 1 v] }).objs.size := by simpa using hb
    subst e
    exact I1.fpOk (Nat.le_refl _) (I1.hok.fresh (Nat.le_refl _))
def iRng1 (ta : TA) : TI := fun σ H R => ta σ H fun vs H1 => ∃ j : Int, vs = [.int j] ∧ -(2 ^ 62) ≤ j ∧ j < 2 ^ 62 ∧ R (Itr 0 j.toNat) H1
def iRng2 (ta : TA) : TI := fun σ H R => ta σ H fun vs H1 => ∃ i j : Int, vs = [.int i, .int j] ∧ (-(2 ^ 62) ≤ i ∧ i < 2 ^ 62 ∧ -(2 ^ 62) ≤ j ∧ j < 2 ^ 62) ∧ R (Itr i (j - i).toNat) H1
theorem pi_range1 {a : Expr} {ta : TA} {p pos : Pos} (hg : Gl X "range") (hm : X.mg "range" = none) (ha : PA X [a] ta) (hs : starEach [a] X.env = [(false, eval a X.env)] := by rfl) : PI X tg (.Call (.Name "range" p) [a] [] pos) (iRng1 ta) := by
  intro pins s σ H R I h
  refine Call_ (ld_blt I hg hm boot_range (PyProof.Rows.callWith_type1 (thn (ha pos pins s σ H _ I h) fun us s1 ⟨vs, H1, I1, r1, q1⟩ => ?_) hs rfl))
  obtain ⟨j, e, q1, q2, q⟩ := q1
  subst e
  cases r1 with
  | cons r rr =>
    cases rr
    obtain ⟨t, rfl⟩ := r
    exact call_range_1 (range_it I1 (by omega) (by omega) q1 q2 (by simpa using q))
theorem pi_range2 {a b : Expr} {ta : TA} {p pos : Pos} (hg : Gl X "range") (hm : X.mg "range" = none) (ha : PA X [a, b] ta) (hs : starEach [a, b] X.env = [(false, eval a X.env), (false, eval b X.env)] := by rfl) (hs2 : starEach [b] X.env = [(false, eval b X.env)] := by rfl) :
    PI X tg (.Call (.Name "range" p) [a, b] [] pos) (iRng2 ta) := by
  intro pins s σ H R I h
  refine Call_ (ld_blt I hg hm boot_range (PyProof.Rows.callWith_type1 (thn (ha pos pins s σ H _ I h) fun us s1 ⟨vs, H1, I1, r1, q1⟩ => ?_) (by rw [hs, hs2]) (by rw [hs2]; rfl)))
  obtain ⟨i, j, e, ⟨q1, q2, q3, q4⟩, q⟩ := q1
  subst e
  cases r1 with
  | cons r rr =>
    cases rr with
    | cons r' rr =>
      cases rr
      obtain ⟨t, rfl⟩ := r
      obtain ⟨t', rfl⟩ := r'
      exact call_range_2 (range_it I1 q1 q2 q3 q4 q)

def tFor (wi : TI) (g : TG) (tb : TS) : TS := fun D σ H => wi σ H fun J H1 => ∃ W : Nat → Nat → St → Hp → Prop, (∃ m, W 0 m σ H1) ∧ ∀ i m σ H, W i m σ H →
  (J.stop i H ∧ D.nx σ H) ∨ (J.go i H ∧ ∃ N : St → Hp → Prop, (∀ σ' H', N σ' H' → ∃ m', m' < m ∧ W (i + 1) m' σ' H') ∧ ∀ x H', J.yld i H x H' → g x σ H' fun σ2 H2 => tb { D with nx := N, ct := N, bk := D.nx } σ2 H2)
def pinsAt (fp : List Addr) (h : Heap) : List (Addr × Obj) := fp.filterMap fun b => (h.get? b).map fun o => (b, o)
theorem mem_pinsAt {fp : List Addr} {h : Heap} {b : Addr} {o : Obj} (hb : b ∈ fp) (e : h.get? b = some o) : (b, o) ∈ pinsAt fp h := List.mem_filterMap.mpr ⟨b, hb, by rw [e]; rfl⟩
theorem of_pinsAt {fp : List Addr} {h : Heap} {p : Addr × Obj} (hp : p ∈ pinsAt fp h) : p.1 ∈ fp ∧ h.get? p.1 = some p.2 := by
  obtain ⟨b, hb, e⟩ := List.mem_filterMap.mp hp
  cases q : h.get? b with
  | none => rw [q] at e; cases e
  | some o =>
    rw [q] at e
    have e' : (b, o) = p := Option.some.inj e
    subst e'
    exact ⟨hb, q⟩
theorem Inv.pinned {pins : List (Addr × Obj)} {σ : St} {H : Hp} {s : Shared} {fp : List Addr} (I : Inv X pins σ H s) (hf : ∀ b ∈ fp, FpOk X pins H b) (ho : ∀ b ∈ fp, ∃ o, s.heap.get? b = some o ∧ ∀ v, o.data ≠ .cell v) : Inv X (pins ++ pinsAt fp s.heap) σ H s :=
  I.pins_of fun p hp => (List.mem_append.mp hp).elim (fun z => I.pin p (List.mem_append_right _ z)) fun z => by
    obtain ⟨hb, e⟩ := of_pinsAt z
    obtain ⟨f0, f1, f2, _⟩ := hf p.1 hb
    obtain ⟨o, e', d⟩ := ho p.1 hb
    rw [e] at e'; cases e'
    exact ⟨e, f0, f1, f2, d⟩
theorem Inv.unpinned {pins pl : List (Addr × Obj)} {σ : St} {H : Hp} {s : Shared} (I : Inv X (pins ++ pl) σ H s) : Inv X pins σ H s := I.pins_of fun p hp => I.pin p (List.mem_append_right _ (List.mem_append_left _ hp))
theorem ps_for {iter : Expr} {body : List Stmt} {wi : TI} {g : TG} {tb : TS} {pos : Pos} (hp : PassesOwn (model X.prog X.w) X.A X.env X.xe) (hc : X.calm = true) (hi : PI X tg iter wi) (hg : PG X tg g) (hb : PSs X body tb)
    (hs : ∀ x, foldedSetIterable iter X.env x = pure x := by intro _; rfl) : PS X (.For tg iter body [] pos) (tFor wi g tb) := by
  intro pins s σ H D I h
  refine wpAny_For (thn (hi pins s σ H _ I h) fun v s1 h1 => thn h1 fun itv s2 h2 => ?_) hs
  obtain ⟨it, fp, tn, J, H2, e, I2, T, st2, f2, W, ⟨m0, w0⟩, turn⟩ := h2
  subst e
  -- what stays true of the iterator's objects through the loop
  have stat : ∀ {H' : Hp}, (∀ b ∈ fp, H' b = none) → ∀ b ∈ fp, FpOk X pins H' b := fun hn b hb => ⟨hn b hb, (f2 b hb).2⟩
  refine codeAny_forLoop_any (fun n s' => ∃ i σ' H', Inv X pins σ' H' s' ∧ tn i s'.heap ∧ (∀ b ∈ fp, H' b = none) ∧ W i n σ' H') ?_ m0 ⟨0, σ, H2, I2, st2, fun b hb => (f2 b hb).1, w0⟩
  rintro n s3 ⟨i, σ3, H3, I3, st3, fr3, w3⟩
  rcases turn i n σ3 H3 w3 with ⟨stop, qn⟩ | ⟨go, N, hN, step⟩
  · refine wpAny_passesOwn hp (thn (T.done X rfl rfl rfl hc i pins s3 σ3 H3 X.xe I3 (stat fr3) st3 stop) fun r s4 ⟨hr, I4⟩ => ?_)
    subst hr
    exact wpAny_execs_nil ⟨σ3, H3, I4, qn⟩
  · refine wpAny_passesOwn hp (thn (T.item X rfl rfl rfl hc i pins s3 σ3 H3 X.xe I3 (stat fr3) st3 go) fun r s4 ⟨u, hr, h4⟩ => ?_)
    subst hr
    refine wpAny_passesOwn hp (thn h4 fun _ s5 ⟨x, H5, I5, r5, y5, st5, fr5⟩ => ?_)
    have I5' := I5.pinned (stat fr5) (T.obj _ _ st5)
    refine wpAny_passesOwn hp (thn (hg _ s5 σ3 H5 x u _ I5' r5 (step x H5 y5)) fun _ s6 ⟨σ6, H6, I6, q6⟩ => ?_)
    refine wpAny_passesOwn hp (thn (hb _ s6 σ6 H6 _ I6 q6) fun f s7 q7 => ?_)
    have again : ∀ {σ7 : St} {H7 : Hp}, Inv X (pins ++ pinsAt fp s5.heap) σ7 H7 s7 → N σ7 H7 → ∃ m, m < n ∧ ∃ i σ' H', Inv X pins σ' H' s7 ∧ tn i s7.heap ∧ (∀ b ∈ fp, H' b = none) ∧ W i m σ' H' := fun {σ7 H7} I7 n7 => by
      obtain ⟨m', hm, w7⟩ := hN σ7 H7 n7
      refine ⟨m', hm, i + 1, σ7, H7, I7.unpinned, T.keep _ _ _ st5 fun b hb o e => (I7.pin (b, o) (List.mem_append_right _ (List.mem_append_right _ (mem_pinsAt hb e)))).1, fun b hb => ?_, w7⟩
      obtain ⟨o, e, d⟩ := T.obj _ _ st5 b hb
      exact (I7.pin (b, o) (List.mem_append_right _ (List.mem_append_right _ (mem_pinsAt hb e)))).2.1
    cases f with
    | next => obtain ⟨σ7, H7, I7, n7⟩ := q7; exact again I7 n7
    | cont => obtain ⟨σ7, H7, I7, n7⟩ := q7; exact again I7 n7
    | brk => obtain ⟨σ7, H7, I7, q7⟩ := q7; exact ⟨σ7, H7, I7.unpinned, q7⟩
    | ret v => obtain ⟨x7, σ7, H7, I7, r7, q7⟩ := q7; exact ⟨x7, σ7, H7, I7.unpinned, r7, q7⟩
end

theorem for_list {K : PySem.W.Frag} {a : Addr} {xs : List V} {g : TG} {tb : TS} {D : Ends} {σ : St} {H : Hp} (Pv : Nat → St → Hp → Prop) (h0 : Pv 0 σ H) (hl : ∀ i σ H, i ≤ xs.length → Pv i σ H → SqL K H a xs)
    (hs : ∀ i x σ H, xs[i]? = some x → Pv i σ H → g x σ H fun σ2 H2 => tb { D with nx := Pv (i + 1), ct := Pv (i + 1), bk := D.nx } σ2 H2) (hd : ∀ σ H, Pv xs.length σ H → D.nx σ H) :
    ∃ W : Nat → Nat → St → Hp → Prop, (∃ m, W 0 m σ H) ∧ ∀ i m σ H, W i m σ H →
      ((Itl K a).stop i H ∧ D.nx σ H) ∨ ((Itl K a).go i H ∧ ∃ N : St → Hp → Prop, (∀ σ' H', N σ' H' → ∃ m', m' < m ∧ W (i + 1) m' σ' H') ∧ ∀ x H', (Itl K a).yld i H x H' → g x σ H' fun σ2 H2 => tb { D with nx := N, ct := N, bk := D.nx } σ2 H2) := by
  refine ⟨fun i m σ H => m = xs.length - i ∧ i ≤ xs.length ∧ Pv i σ H, ⟨xs.length, by simp, Nat.zero_le _, h0⟩, ?_⟩
  rintro i m σ H ⟨rfl, hi, p⟩
  have q := hl i σ H hi p
  by_cases hlt : i < xs.length
  · refine .inr ⟨⟨xs, xs[i], q, by simp [hlt]⟩, Pv (i + 1), fun σ' H' p' => ⟨xs.length - (i + 1), by omega, rfl, hlt, p'⟩, fun x H' y => ?_⟩
    obtain ⟨e, y⟩ := y
    subst e
    exact hs i x σ _ (y xs q) p
  · have e : i = xs.length := by omega
    subst e
    exact .inl ⟨⟨xs, q, Nat.le_refl _⟩, hd σ H p⟩
theorem for_range {lo : Int} {n : Nat} {g : TG} {tb : TS} {D : Ends} {σ : St} {H : Hp} (Pv : Nat → St → Hp → Prop) (h0 : Pv 0 σ H)
    (hs : ∀ i σ H, i < n → Pv i σ H → g (.int (lo + i)) σ H fun σ2 H2 => tb { D with nx := Pv (i + 1), ct := Pv (i + 1), bk := D.nx } σ2 H2) (hd : ∀ σ H, Pv n σ H → D.nx σ H) :
    ∃ W : Nat → Nat → St → Hp → Prop, (∃ m, W 0 m σ H) ∧ ∀ i m σ H, W i m σ H →
      ((Itr lo n).stop i H ∧ D.nx σ H) ∨ ((Itr lo n).go i H ∧ ∃ N : St → Hp → Prop, (∀ σ' H', N σ' H' → ∃ m', m' < m ∧ W (i + 1) m' σ' H') ∧ ∀ x H', (Itr lo n).yld i H x H' → g x σ H' fun σ2 H2 => tb { D with nx := N, ct := N, bk := D.nx } σ2 H2) := by
  refine ⟨fun i m σ H => m = n - i ∧ i ≤ n ∧ Pv i σ H, ⟨n, by simp, Nat.zero_le _, h0⟩, ?_⟩
  rintro i m σ H ⟨rfl, hi, p⟩
  by_cases hlt : i < n
  · refine .inr ⟨hlt, Pv (i + 1), fun σ' H' p' => ⟨n - (i + 1), by omega, rfl, hlt, p'⟩, fun x H' y => ?_⟩
    obtain ⟨e, y⟩ := y
    subst e y
    exact hs i σ _ hlt p
  · have e : i = n := by omega
    subst e
    exact .inl ⟨Nat.le_refl _, hd σ H p⟩
end L2

namespace L2
open PySem PySem.Spec PyProof.Rows

abbrev R2 := V → V → Hp → VK → Prop
def OpR (X : Cx) (f : Value → Value → Sem Value) (r : R2) : Prop :=
  ∀ (pins : List (Addr × Obj)) (s : Shared) (σ : St) (H : Hp) (x y : V) (v u : Value) (Q : VK), Inv X pins σ H s → RelV x v → RelV y u → r x y H Q →
    wpAny (model X.prog X.w) X.A (f v u) (EP X pins σ Q) X.xe s
def UnR (X : Cx) (f : Value → Sem Value) (r : V → Hp → VK → Prop) : Prop :=
  ∀ (pins : List (Addr × Obj)) (s : Shared) (σ : St) (H : Hp) (x : V) (v : Value) (Q : VK), Inv X pins σ H s → RelV x v → r x H Q →
    wpAny (model X.prog X.w) X.A (f v) (EP X pins σ Q) X.xe s
def CallR (X : Cx) (f : Value) (r : List V → Hp → VK → Prop) : Prop :=
  ∀ (pins : List (Addr × Obj)) (s : Shared) (σ : St) (H : Hp) (xs : List V) (us : List Value) (Q : VK), Inv X pins σ H s → Vals xs us → r xs H Q →
    wpAny (model X.prog X.w) X.A (call f us) (EP X pins σ Q) X.xe s

def tOp (r : R2) (ta tb : TE) : TE := fun σ H Q => ta σ H fun x H1 => tb σ H1 fun y H2 => r x y H2 Q
def tUn (r : V → Hp → VK → Prop) (ta : TE) : TE := fun σ H Q => ta σ H fun x H1 => r x H1 Q
def rI (C : Int → Int → Prop) (g : Int → Int → V) : R2 := fun x y H Q => ∃ i j, x = .int i ∧ y = .int j ∧ C i j ∧ Q (g i j) H
def rI0 (g : Int → Int → V) : R2 := fun x y H Q => ∃ i j, x = .int i ∧ y = .int j ∧ Q (g i j) H
def rU (g : Int → V) : V → Hp → VK → Prop := fun x H Q => ∃ i, x = .int i ∧ Q (g i) H

section
variable {X : Cx} {a b c : Expr} {ta tb tc : TE} {pos : Pos}

theorem binT (ha : PE X a ta) (hb : PE X b tb) {pins : List (Addr × Obj)} {s : Shared} {σ : St} {H : Hp} {R : V → V → Hp → Prop} (I : Inv X pins σ H s)
    (h : ta σ H fun x H1 => tb σ H1 fun y H2 => R x y H2) {Q : Value → Shared → Prop} {f : Value → Value → Sem Value}
    (hf : ∀ v u s2 x y H2, Inv X pins σ H2 s2 → RelV x v → RelV y u → R x y H2 → wpAny (model X.prog X.w) X.A (f v u) Q X.xe s2) :
    wpAny (model X.prog X.w) X.A (eval a X.env) (fun v s₁ => wpAny (model X.prog X.w) X.A (eval b X.env) (fun u s₂ => wpAny (model X.prog X.w) X.A (f v u) Q X.xe s₂) X.xe s₁) X.xe s := by
  refine thn (ha pins s σ H _ I h) fun v s1 ⟨x, H1, I1, r1, q1⟩ => ?_
  refine thn (hb pins s1 σ H1 _ I1 q1) fun u s2 ⟨y, H2, I2, r2, q2⟩ => ?_
  exact hf v u s2 x y H2 I2 r1 r2 q2

theorem pe_op {op : Operator} {r : R2} (ho : OpR X (binaryOp op) r) (ha : PE X a ta) (hb : PE X b tb) : PE X (.BinOp a op b pos) (tOp r ta tb) := by
  intro pins s σ H Q I h
  exact wpAny_BinOp (binT ha hb I h fun v u s2 x y H2 I2 rx ry q => ho pins s2 σ H2 x y v u Q I2 rx ry q)
theorem pe_un {op : UnaryOp} {r : V → Hp → VK → Prop} (ho : UnR X (unaryOp op) r) (ha : PE X a ta) : PE X (.UnaryOp op a pos) (tUn r ta) := by
  intro pins s σ H Q I h
  exact UnaryOp_ (thn (ha pins s σ H _ I h) fun v s1 ⟨x, H1, I1, r1, q1⟩ => ho pins s1 σ H1 x v Q I1 r1 q1)

theorem opI {f : Value → Value → Sem Value} {C : Int → Int → Prop} {g : Int → Int → Int}
    (rule : ∀ (i j : Int) (t u : Tok) (s : Shared) (Q : Value → Shared → Prop) (E : Value → Shared → Prop), C i j → Q (.int (g i j) s.toks) { s with toks := s.toks + 1 } → wpAny (model X.prog X.w) X.A (f (.int i t) (.int j u)) Q E s) :
    OpR X f (rI C fun i j => .int (g i j)) := by
  intro pins s σ H x y v u Q I rx ry h
  obtain ⟨i, j, rfl, rfl, hc, q⟩ := h
  obtain ⟨t, rfl⟩ := rx
  obtain ⟨t', rfl⟩ := ry
  exact rule i j t t' s _ _ hc ⟨.int (g i j), H, I.tok _, ⟨_, rfl⟩, q⟩
theorem opI0 {f : Value → Value → Sem Value} {g : Int → Int → Int}
    (rule : ∀ (i j : Int) (t u : Tok) (s : Shared) (Q : Value → Shared → Prop) (E : Value → Shared → Prop), Q (.int (g i j) s.toks) { s with toks := s.toks + 1 } → wpAny (model X.prog X.w) X.A (f (.int i t) (.int j u)) Q E s) :
    OpR X f (rI0 fun i j => .int (g i j)) := by
  intro pins s σ H x y v u Q I rx ry h
  obtain ⟨i, j, rfl, rfl, q⟩ := h
  obtain ⟨t, rfl⟩ := rx
  obtain ⟨t', rfl⟩ := ry
  exact rule i j t t' s _ _ ⟨.int (g i j), H, I.tok _, ⟨_, rfl⟩, q⟩
theorem opB0 {f : Value → Value → Sem Value} {g : Int → Int → Bool}
    (rule : ∀ (i j : Int) (t u : Tok) (s : Shared) (Q : Value → Shared → Prop) (E : Value → Shared → Prop), Q (.bool (g i j)) s → wpAny (model X.prog X.w) X.A (f (.int i t) (.int j u)) Q E s) :
    OpR X f (rI0 fun i j => .bl (g i j)) := by
  intro pins s σ H x y v u Q I rx ry h
  obtain ⟨i, j, rfl, rfl, q⟩ := h
  obtain ⟨t, rfl⟩ := rx
  obtain ⟨t', rfl⟩ := ry
  exact rule i j t t' s _ _ ⟨.bl (g i j), H, I, rfl, q⟩

def CPow (i j : Int) : Prop := 0 ≤ j ∧ j ≤ 1000000 ∧ i.natAbs < 2 ^ 64
def CMul (i j : Int) : Prop := (-(2 ^ 64) < i ∧ i < 2 ^ 64) ∨ (-(2 ^ 64) < j ∧ j < 2 ^ 64)
theorem CMul.ok {i j : Int} (h : CMul i j) : IntMulOk i j := by
  rcases h with ⟨h1, h2⟩ | ⟨h1, h2⟩
  · exact .of_left (intBits_le_64 h1 h2)
  · exact .of_right (intBits_le_64 h1 h2)
theorem two_pow_nn (k : Nat) : (0 : Int) ≤ 2 ^ k := by
  rw [two_pow_cast]
  exact Int.natCast_nonneg _

theorem op_add : OpR X (binaryOp .Add) (rI0 fun i j => .int (i + j)) := opI0 fun _ _ _ _ _ _ _ q => add_int q
theorem op_sub : OpR X (binaryOp .Sub) (rI0 fun i j => .int (i - j)) := opI0 fun _ _ _ _ _ _ _ q => sub_int q
theorem op_mod : OpR X (binaryOp .Mod) (rI (fun _ j => 0 < j) fun i j => .int (i % j)) := opI fun i j _ _ _ _ _ hc q => by
  have h1 : (0 : Int) < j := hc
  exact mod_int' (by omega) (by rw [Int.fmod_eq_emod_of_nonneg i (by omega)]; exact q)
theorem op_pow : OpR X (binaryOp .Pow) (rI CPow fun i j => .int (i ^ j.toNat)) := opI fun _ _ _ _ _ _ _ hc q => pow_int_small hc.1 hc.2.1 hc.2.2 q
theorem op_shl : OpR X (binaryOp .LShift) (rI CPow fun i j => .int (i * 2 ^ j.toNat)) := opI fun _ _ _ _ _ _ _ hc q => lshift_int_small hc.1 hc.2.1 hc.2.2 q
theorem op_shr : OpR X (binaryOp .RShift) (rI (fun _ j => 0 ≤ j) fun i j => .int (i / 2 ^ j.toNat)) := opI fun i j _ _ _ _ _ hc q =>
  rshift_int hc (by rw [Int.fdiv_eq_ediv_of_nonneg i (two_pow_nn _)]; exact q)
theorem op_and : OpR X (binaryOp .BitAnd) (rI0 fun i j => .int (Builtin.bitAnd i j)) := opI0 fun _ _ _ _ _ _ _ q => and_int q
theorem op_or : OpR X (binaryOp .BitOr) (rI0 fun i j => .int (Builtin.bitOr i j)) := opI0 fun _ _ _ _ _ _ _ q => or_int q
theorem op_xor : OpR X (binaryOp .BitXor) (rI0 fun i j => .int (Builtin.bitXor i j)) := opI0 fun _ _ _ _ _ _ _ q => xor_int q


theorem unI {f : Value → Sem Value} {g : Int → Int}
    (rule : ∀ (i : Int) (t : Tok) (s : Shared) (Q : Value → Shared → Prop) (E : Value → Shared → Prop), Q (.int (g i) s.toks) { s with toks := s.toks + 1 } → wpAny (model X.prog X.w) X.A (f (.int i t)) Q E s) :
    UnR X f (rU fun i => .int (g i)) := by
  intro pins s σ H x v Q I rx h
  obtain ⟨i, rfl, q⟩ := h
  obtain ⟨t, rfl⟩ := rx
  exact rule i t s _ _ ⟨.int (g i), H, I.tok _, ⟨_, rfl⟩, q⟩
theorem un_neg : UnR X (unaryOp .USub) (rU fun i => .int (-i)) := unI fun _ _ _ _ _ q => neg_int q

end

def scal : V → V → Bool
  | .non, .non => true | .non, .int _ => true | .int _, .non => true | .non, .bl _ => true | .bl _, .non => true | .non, .str _ => true | .str _, .non => true
  | .int _, .int _ => true | .bl _, .bl _ => true | .str _, .str _ => true | .byt _, .byt _ => true
  | .int _, .str _ => true | .str _, .int _ => true | .bl _, .str _ => true | .str _, .bl _ => true
  | _, _ => false
def rEq : R2 := fun x y H Q => scal x y = true ∧ Q (.bl (decide (x = y))) H
def rNe : R2 := fun x y H Q => scal x y = true ∧ Q (.bl (!decide (x = y))) H

theorem dec_int {i j : Int} : decide (V.int i = V.int j) = (i == j) := by
  rw [Bool.eq_iff_iff]
  simp
theorem dec_bl {i j : Bool} : decide (V.bl i = V.bl j) = (i == j) := by
  rw [Bool.eq_iff_iff]
  simp
theorem dec_str {i j : Str} : decide (V.str i = V.str j) = (i == j) := by
  rw [Bool.eq_iff_iff]
  simp
theorem dec_byt {i j : Array UInt8} : decide (V.byt i = V.byt j) = (i.toList == j.toList) := by
  rw [Bool.eq_iff_iff]
  cases i
  cases j
  simp

section
variable {X : Cx} {a b c : Expr} {ta tb tc : TE} {pos : Pos}
theorem fin_bl {pins : List (Addr × Obj)} {σ : St} {H : Hp} {s : Shared} {Q : VK} {k k' : Bool} (I : Inv X pins σ H s) (q : Q (.bl k) H) (e : k = k') : EP X pins σ Q (.bool k') s := by
  subst e
  exact ⟨.bl k, H, I, rfl, q⟩
theorem op_eq : OpR X (compareOp .Eq) rEq := by
  intro pins s σ H x y v u Q I rx ry h
  obtain ⟨hs, q⟩ := h
  cases x with
  | non =>
    cases rx
    cases y with
    | non => cases ry; exact PySem.EqNone.eq_none_none (fin_bl I q (by simp))
    | bl j => cases ry; exact PySem.EqNone.eq_none_bool (fin_bl I q (by simp))
    | int j => obtain ⟨t', rfl⟩ := ry; exact PySem.EqNone.eq_none_int (fin_bl I q (by simp))
    | str j => obtain ⟨t', rfl⟩ := ry; exact PySem.EqNone.eq_none_str (fin_bl I q (by simp))
    | _ => exact absurd (show false = true from hs) Bool.false_ne_true
  | bl i =>
    cases rx
    cases y with
    | non => cases ry; exact PySem.EqNone.eq_bool_none (fin_bl I q (by simp))
    | bl j => cases ry; exact eq_bool (fin_bl I q dec_bl)
    | str j => obtain ⟨t', rfl⟩ := ry; exact PySem.EqMixed.eq_bool_str (fin_bl I q (by simp))
    | _ => exact absurd (show false = true from hs) Bool.false_ne_true
  | int i =>
    obtain ⟨t, rfl⟩ := rx
    cases y with
    | non => cases ry; exact PySem.EqNone.eq_int_none (fin_bl I q (by simp))
    | int j => obtain ⟨t', rfl⟩ := ry; exact eq_int (fin_bl I q dec_int)
    | str j => obtain ⟨t', rfl⟩ := ry; exact PySem.EqMixed.eq_int_str (fin_bl I q (by simp))
    | _ => exact absurd (show false = true from hs) Bool.false_ne_true
  | str i =>
    obtain ⟨t, rfl⟩ := rx
    cases y with
    | non => cases ry; exact PySem.EqNone.eq_str_none (fin_bl I q (by simp))
    | bl j => cases ry; exact PySem.EqMixed.eq_str_bool (fin_bl I q (by simp))
    | int j => obtain ⟨t', rfl⟩ := ry; exact PySem.EqMixed.eq_str_int (fin_bl I q (by simp))
    | str j => obtain ⟨t', rfl⟩ := ry; exact eq_str (fin_bl I q dec_str)
    | _ => exact absurd (show false = true from hs) Bool.false_ne_true
  | byt i =>
    obtain ⟨t, rfl⟩ := rx
    cases y with
    | byt j => obtain ⟨t', rfl⟩ := ry; exact PySem.W.eq_bytes (fin_bl I q dec_byt)
    | _ => exact absurd (show false = true from hs) Bool.false_ne_true
  | _ => cases y <;> exact absurd (show false = true from hs) Bool.false_ne_true
theorem op_ne : OpR X (compareOp .NotEq) rNe := by
  intro pins s σ H x y v u Q I rx ry h
  obtain ⟨hs, q⟩ := h
  cases x with
  | non =>
    cases rx
    cases y with
    | non => cases ry; exact PySem.EqNone.ne_none_none (fin_bl I q (by simp))
    | bl j => cases ry; exact PySem.EqNone.ne_none_bool (fin_bl I q (by simp))
    | int j => obtain ⟨t', rfl⟩ := ry; exact PySem.EqNone.ne_none_int (fin_bl I q (by simp))
    | str j => obtain ⟨t', rfl⟩ := ry; exact PySem.EqNone.ne_none_str (fin_bl I q (by simp))
    | _ => exact absurd (show false = true from hs) Bool.false_ne_true
  | bl i =>
    cases rx
    cases y with
    | non => cases ry; exact PySem.EqNone.ne_bool_none (fin_bl I q (by simp))
    | bl j => cases ry; exact ne_bool (fin_bl I q (congrArg not dec_bl))
    | str j => obtain ⟨t', rfl⟩ := ry; exact PySem.EqMixed.ne_bool_str (fin_bl I q (by simp))
    | _ => exact absurd (show false = true from hs) Bool.false_ne_true
  | int i =>
    obtain ⟨t, rfl⟩ := rx
    cases y with
    | non => cases ry; exact PySem.EqNone.ne_int_none (fin_bl I q (by simp))
    | int j => obtain ⟨t', rfl⟩ := ry; exact ne_int (fin_bl I q (congrArg not dec_int))
    | str j => obtain ⟨t', rfl⟩ := ry; exact PySem.EqMixed.ne_int_str (fin_bl I q (by simp))
    | _ => exact absurd (show false = true from hs) Bool.false_ne_true
  | str i =>
    obtain ⟨t, rfl⟩ := rx
    cases y with
    | non => cases ry; exact PySem.EqNone.ne_str_none (fin_bl I q (by simp))
    | bl j => cases ry; exact PySem.EqMixed.ne_str_bool (fin_bl I q (by simp))
    | int j => obtain ⟨t', rfl⟩ := ry; exact PySem.EqMixed.ne_str_int (fin_bl I q (by simp))
    | str j => obtain ⟨t', rfl⟩ := ry; exact ne_str (fin_bl I q (congrArg not dec_str))
    | _ => exact absurd (show false = true from hs) Bool.false_ne_true
  | byt i =>
    obtain ⟨t, rfl⟩ := rx
    cases y with
    | byt j => obtain ⟨t', rfl⟩ := ry; exact PySem.W.ne_bytes (fin_bl I q (congrArg not dec_byt))
    | _ => exact absurd (show false = true from hs) Bool.false_ne_true
  | _ => cases y <;> exact absurd (show false = true from hs) Bool.false_ne_true

theorem op_lt : OpR X (compareOp .Lt) (rI0 fun i j => .bl (decide (i < j))) := opB0 fun _ _ _ _ _ _ _ q => lt_int q
theorem op_le : OpR X (compareOp .LtE) (rI0 fun i j => .bl (decide (i ≤ j))) := opB0 fun _ _ _ _ _ _ _ q => le_int q
theorem op_gt : OpR X (compareOp .Gt) (rI0 fun i j => .bl (decide (j < i))) := opB0 fun _ _ _ _ _ _ _ q => gt_int q



theorem OpR.or {f : Value → Value → Sem Value} {r r' : R2} (h : OpR X f r) (h' : OpR X f r') : OpR X f (fun x y H Q => r x y H Q ∨ r' x y H Q) := by
  intro pins s σ H x y v u Q I rx ry q
  rcases q with q | q
  · exact h pins s σ H x y v u Q I rx ry q
  · exact h' pins s σ H x y v u Q I rx ry q

theorem nomark (b : Expr) {op : CmpOp} (h : op ≠ .In := by decide) (h2 : op ≠ .NotIn := by decide) : behindInMarks op b = false := by
  have e1 : (op == CmpOp.In) = false := by cases op <;> first | rfl | exact absurd rfl h
  have e2 : (op == CmpOp.NotIn) = false := by cases op <;> first | rfl | exact absurd rfl h2
  cases b <;> simp [behindInMarks, e1, e2]
theorem pe_cmpR {op : CmpOp} {r : R2} (ho : OpR X (compareOp op) r) (ha : PE X a ta) (hb : PE X b tb) (hm : behindInMarks op b = false) : PE X (.Compare a [op] [b] pos) (tOp r ta tb) := by
  intro pins s σ H Q I h
  exact wpAny_Compare1 (binT ha hb I h fun v u s2 x y H2 I2 rx ry q => ho pins s2 σ H2 x y v u Q I2 rx ry q) hm
def tTest (t : TE) : TT := fun σ H Q => t σ H fun x H' => ∃ k, x = .bl k ∧ Q k H'
theorem pt_cmpR {op : CmpOp} {r : R2} (ho : OpR X (compareOp op) r) (ha : PE X a ta) (hb : PE X b tb) (hm : behindInMarks op b = false) : PT X (.Compare a [op] [b] pos) (tTest (tOp r ta tb)) := by
  intro pins s σ H Q I h
  refine wpAny_isTrue_Compare1 (thn (ha pins s σ H _ I h) fun v s1 ⟨x, H1, I1, r1, q1⟩ => thn (hb pins s1 σ H1 _ I1 q1) fun u s2 ⟨y, H2, I2, r2, q2⟩ =>
    thn (ho pins s2 σ H2 x y v u _ I2 r1 r2 q2) fun c s3 ⟨z, H3, I3, r3, k, e, q3⟩ => ?_) hm
  subst e
  cases r3
  exact wpAny_truthy_bool ⟨H3, I3, q3⟩
def tChain (r r' : R2) (ta tb tc : TE) : TE := fun σ H Q => ta σ H fun x H1 => tb σ H1 fun y H2 => r x y H2 fun z H3 => ∃ k, z = .bl k ∧
  (if k = true then tc σ H3 fun w' H4 => r' y w' H4 Q else Q (.bl false) H3)
theorem pe_chain {op op' : CmpOp} {r r' : R2} (ho : OpR X (compareOp op) r) (ho' : OpR X (compareOp op') r') (ha : PE X a ta) (hb : PE X b tb) (hc : PE X c tc)
    (hm : lastMarks [op, op'] [b, c] = false := by with_unfolding_all rfl) : PE X (.Compare a [op, op'] [b, c] pos) (tChain r r' ta tb tc) := by
  intro pins s σ H Q I h
  refine Compare_chain (thn (ha pins s σ H _ I h) fun v s1 ⟨x, H1, I1, r1, q1⟩ => chain_link (thn (hb pins s1 σ H1 _ I1 q1) fun u s2 ⟨y, H2, I2, r2, q2⟩ =>
    thn (ho pins s2 σ H2 x y v u _ I2 r1 r2 q2) fun d s3 ⟨z, H3, I3, r3, k, e, q3⟩ => ?_)) hm
  subst e
  cases r3
  refine wpAny_truthy_bool ?_
  cases k with
  | false => exact ite_ff ⟨.bl false, H3, I3, rfl, q3⟩
  | true => exact ite_tt (chain_last (thn (hc pins s3 σ H3 _ I3 q3) fun w' s4 ⟨z', H4, I4, r4, q4⟩ => ho' pins s4 σ H4 y z' u w' Q I4 r2 r4 q4))
theorem pt_chain {op op' : CmpOp} {r r' : R2} (ho : OpR X (compareOp op) r) (ho' : OpR X (compareOp op') r') (ha : PE X a ta) (hb : PE X b tb) (hc : PE X c tc)
    (hm : lastMarks [op, op'] [b, c] = false := by with_unfolding_all rfl) : PT X (.Compare a [op, op'] [b, c] pos) (tTest (tChain r r' ta tb tc)) := by
  intro pins s σ H Q I h
  refine isTrue_chain (thn (ha pins s σ H _ I h) fun v s1 ⟨x, H1, I1, r1, q1⟩ => test_link (thn (hb pins s1 σ H1 _ I1 q1) fun u s2 ⟨y, H2, I2, r2, q2⟩ =>
    thn (ho pins s2 σ H2 x y v u _ I2 r1 r2 q2) fun d s3 ⟨z, H3, I3, r3, k, e, q3⟩ => ?_)) hm
  subst e
  cases r3
  refine wpAny_truthy_bool ?_
  cases k with
  | false =>
    obtain ⟨k', e', q'⟩ := q3
    cases e'
    exact ite_ff ⟨H3, I3, q'⟩
  | true =>
    refine ite_tt (test_last (thn (hc pins s3 σ H3 _ I3 q3) fun w' s4 ⟨z', H4, I4, r4, q4⟩ => thn (ho' pins s4 σ H4 y z' u w' _ I4 r2 r4 q4) fun d' s5 ⟨z2, H5, I5, r5, k2, e2, q5⟩ => ?_))
    subst e2
    cases r5
    exact wpAny_truthy_bool ⟨H5, I5, q5⟩

theorem line63 : (sizeLine : Nat) < 2 ^ 63 := by rw [sizeLine_eq]; decide



theorem vals1 {x : V} {us : List Value} (r : Vals [x] us) : ∃ u, us = [u] ∧ RelV x u := by
  cases r with
  | cons r1 r2 => cases r2; exact ⟨_, rfl, r1⟩
theorem vals2 {x y : V} {us : List Value} (r : Vals [x, y] us) : ∃ u w', us = [u, w'] ∧ RelV x u ∧ RelV y w' := by
  cases r with
  | cons r1 r2 =>
    cases r2 with
    | cons r3 r4 => cases r4; exact ⟨_, _, rfl, r1, r3⟩
theorem call_abs : CallR X (.builtin "abs") (fun xs H Q => ∃ i, xs = [.int i] ∧ Q (.int (if i < 0 then -i else i)) H) := by
  intro pins s σ H xs us Q I r h
  obtain ⟨i, rfl, q⟩ := h
  obtain ⟨u, rfl, t, rfl⟩ := vals1 r
  exact call_abs_int fun u tk => ⟨.int (if i < 0 then -i else i), H, I.tok _, ⟨_, rfl⟩, q⟩
theorem call_max2 (hc : X.calm = true) : CallR X (.builtin "max") (fun xs H Q => ∃ i j, xs = [.int i, .int j] ∧ Q (.int (if j > i then j else i)) H) := by
  intro pins s σ H xs us Q I r h
  obtain ⟨i, j, rfl, q⟩ := h
  obtain ⟨u, w', rfl, ⟨t, rfl⟩, ⟨t', rfl⟩⟩ := vals2 r
  refine max_two_ints (I.ok.hd hc) fun h' tk k => ⟨_, H, I.kept k, ?_, q⟩
  by_cases hj : j > i
  · rw [if_pos hj, if_pos hj]; exact ⟨_, rfl⟩
  · rw [if_neg hj, if_neg hj]; exact ⟨_, rfl⟩
theorem call_min2 (hc : X.calm = true) : CallR X (.builtin "min") (fun xs H Q => ∃ i j, xs = [.int i, .int j] ∧ Q (.int (if j < i then j else i)) H) := by
  intro pins s σ H xs us Q I r h
  obtain ⟨i, j, rfl, q⟩ := h
  obtain ⟨u, w', rfl, ⟨t, rfl⟩, ⟨t', rfl⟩⟩ := vals2 r
  refine min_two_ints (I.ok.hd hc) fun h' tk k => ⟨_, H, I.kept k, ?_, q⟩
  by_cases hj : j < i
  · rw [if_pos hj, if_pos hj]; exact ⟨_, rfl⟩
  · rw [if_neg hj, if_neg hj]; exact ⟨_, rfl⟩
end
end L2

namespace L2
open PySem PySem.Spec PyProof.Rows

structure ObjM (h : Heap) (x dx C : Addr) (mA : Str → Option Value) : Prop where
  obj : h.get? x = some (PySem.W.instObj C dx)
  ns : h.Ns1 dx mA
  ne : dx ≠ x

theorem lookIn_ns {h : Heap} {dx : Addr} {mA : Str → Option Value} (n : h.Ns1 dx mA) : ∃ od, h.get? dx = some od ∧ ∀ name, PySem.W.lookIn name od = some (mA name) := by
  obtain ⟨o, es, ep, ho, hd, hk, _, hm⟩ := n
  refine ⟨o, ho, fun name => ?_⟩
  have e := hm name
  unfold nsFind findBy at e
  rw [← Array.find?_toList] at e
  unfold PySem.W.lookIn
  rw [hd]
  dsimp only
  split
  · rename_i y q
    rw [q] at e
    exact congrArg some e
  · rename_i q
    rw [q] at e
    have a : es.toList.any (·.refKey) = false := by
      rw [List.any_eq_false]
      intro y hy
      obtain ⟨z, t, hkey⟩ := hk y (Array.mem_toList_iff.mp hy)
      simp [DictEntry.refKey, hkey]
    have a' : ¬ es.toList.any (·.refKey) = true := by rw [a]; exact Bool.false_ne_true
    rw [if_neg a']
    exact congrArg some e

theorem ObjM.look {h : Heap} {x dx C : Addr} {mA : Str → Option Value} (I : ObjM h x dx C mA) : ∃ od, PySem.W.InstAt h x (PySem.W.instObj C dx) C (some od) ∧ ∀ name, PySem.W.lookIn name od = some (mA name) :=
  let ⟨od, ho, hl⟩ := lookIn_ns I.ns
  ⟨od, ⟨I.obj, rfl, rfl, ho⟩, hl⟩

section
variable {prog : Program} {w : World} {A : Around} {E : Value → Shared → Prop} {s : Shared} {K : PySem.W.Frag} {x dx C f : Addr} {mA : Str → Option Value} {name : Str} {v : Value}





end


theorem RelO.some_of {v : V} {o : Option Value} (r : RelO (some v) o) : ∃ u, o = some u ∧ RelV v u := by
  cases o with
  | none => exact (show False from r).elim
  | some u => exact ⟨u, rfl, r⟩

section
variable {P : Program} {w : World} {H H' : Hp} {h h' : Heap} {a C dx : Addr} {fs fs' : List (Str × V)}
theorem ins_get (hok : HOk P w H h) (e : H a = some (.ins C dx fs)) : ∃ mA, ObjM h a dx C mA ∧ (∀ f, RelO (fs.lookup f) (mA f)) ∧ PySem.Within mA (fs.map (·.1)) ∧ fs.length ≤ 1000 ∧ H dx = some (.own a) := by
  obtain ⟨d, z, ne, ob, mA, n, r, q⟩ := (show ObjOk P w H h a (.ins C dx fs) from hok a _ e)
  exact ⟨mA, ⟨ob, n, ne⟩, r, q, z, d⟩
end

structure Cls (K : PySem.W.Frag) (C : Addr) : Prop where
  pg : PySem.W.plainGet K C Str.empty = true
  hd : PySem.W.hasDictIn K C = true
  po : PySem.W.plainOver K C = true
  sa : PySem.W.findIn K (.ref C) "__setattr__" = some (some (.builtin "object.__setattr__"))
theorem Cls.get {K : PySem.W.Frag} {C : Addr} (c : Cls K C) (f : Str) : PySem.W.plainGet K C f = true := c.pg
def NoAttr (K : PySem.W.Frag) (C : Addr) (f : Str) : Prop := PySem.W.findIn K (.ref C) f = some none
structure Con (K : PySem.W.Frag) (C : Addr) (f : Str) (v : V) (u : Value) : Prop where
  at_ : PySem.W.findIn K (.ref C) f = some (some u)
  rel : RelV v u
  get : PySem.W.specialIn K u "__get__" = some none
  cp : PySem.W.copiedNames.contains f = false
structure Meth (K : PySem.W.Frag) (C : Addr) (m : Str) (f : Addr) : Prop where
  at_ : PySem.W.findIn K (.ref C) m = some (some (.ref f))
  fn : PySem.W.isFn K (.ref f) = true
  kp : PySem.W.keepIn K (.ref f) = true

section
variable {X : Cx} {pins : List (Addr × Obj)} {σ : St} {H : Hp} {s : Shared} {a C dx : Addr} {fs : List (Str × V)} {f : Str} {v : V} {A : Around} {E : Value → Shared → Prop}





theorem Inv.made (I : Inv X pins σ H s) : Inv X pins σ (upd (upd H s.heap.objs.size (.own (s.heap.objs.size + 1))) (s.heap.objs.size + 1) (.ins C s.heap.objs.size []))
    { s with heap := (s.heap.push PySem.W.emptyDict).push (PySem.W.instObj C s.heap.objs.size) } := by
  have e1 : (s.heap.push PySem.W.emptyDict).get? s.heap.objs.size = some PySem.W.emptyDict := Heap.get?_push_size s.heap rfl
  have e2 : ((s.heap.push PySem.W.emptyDict).push (PySem.W.instObj C s.heap.objs.size)).get? (s.heap.objs.size + 1) = some (PySem.W.instObj C s.heap.objs.size) := by
    have := Heap.get?_push_size (s.heap.push PySem.W.emptyDict) (o := PySem.W.instObj C s.heap.objs.size) rfl
    rwa [Heap.size_push] at this
  have e3 : (s.heap.push PySem.W.emptyDict).Ns s.heap.objs.size (fun _ => none) := ⟨PySem.W.emptyDict, #[], _, e1, rfl, (fun e he => absurd he (by simp)), fun _ => rfl⟩
  have I1 := I.laid (a := s.heap.objs.size) (o := .own (s.heap.objs.size + 1)) (h' := s.heap.push PySem.W.emptyDict) (t' := s.toks) (fun b u q => Heap.get?_push_of_some _ q) (Nat.le_refl _) ⟨_, e1⟩
  refine I1.laid (a := s.heap.objs.size + 1) (o := .ins C s.heap.objs.size []) (t' := s.toks) (fun b u q => Heap.get?_push_of_some _ q) (Nat.le_of_eq (Heap.size_push _ _)) ?_
  have ne : s.heap.objs.size ≠ s.heap.objs.size + 1 := Nat.ne_of_lt (Nat.lt_succ_self _)
  refine ⟨by rw [upd_ne ne, upd_same], Nat.zero_le _, ne, e2, fun _ => none, (Heap.Ns1.of_empty e3).at fun o q => Heap.get?_push_of_some _ q, fun _ => True.intro, fun y hy => absurd rfl hy⟩

end


section
variable {X : Cx} {o e value : Expr} {f : Str} {pos pos' tpos : Pos} {ta tv : TE}

end

section
variable {X : Cx} {pins : List (Addr × Obj)} {σ : St} {H : Hp} {s : Shared} {A : Around} {E : Value → Shared → Prop} {Q : Value → Shared → Prop} {c : Value} {b : Bool}
inductive TyOf (K : PySem.W.Frag) (H : Hp) : V → Value → Prop where
  | non : TyOf K H .non (.type "NoneType")
  | bl (x : Bool) : TyOf K H (.bl x) (.type "bool")
  | int (i : Int) : TyOf K H (.int i) (.type "int")
  | str (x : Str) : TyOf K H (.str x) (.type "str")
  | flt (x : UInt64) : TyOf K H (.flt x) (.type "float")
  | lst {a : Addr} {xs : List V} (e : H a = some (.lst xs)) : TyOf K H (.ref a) (.type "list")
  | frz {a : Addr} {o : Obj} {xs : List V} (e : H a = some (.frz o (.lst xs))) : TyOf K H (.ref a) (.type "list")
  | tup {a : Addr} {xs : List V} (e : H a = some (.tup xs)) : TyOf K H (.ref a) (.type "tuple")
  | dK {a : Addr} {kvs : List (Key × V)} (e : H a = some (.dK kvs)) : TyOf K H (.ref a) (.type "dict")
  | dT {a : Addr} {kvs : List (List Key × V)} (e : H a = some (.dT kvs)) : TyOf K H (.ref a) (.type "dict")
  | ins {a C dx : Addr} {fs : List (Str × V)} (e : H a = some (.ins C dx fs)) (cl : Cls K C) (ha : PySem.W.findIn K (.ref C) "__class__" = some (some (.builtin "object.__class__")))
      (hn : PySem.W.specialIn K (.builtin "object.__class__") "__get__" = some (some (.builtin "getset_descriptor.__get__"))) (htk : PySem.W.takesIn K (.builtin "object.__class__") = some true)
      (hm : PySem.W.mroIn K C (.type "object") = some true) : TyOf K H (.ref a) (.ref C)
theorem isinst_ok {x : V} {u t : Value} (I : Inv X pins σ H s) (rx : RelV x u) (ty : TyOf X.K H x t) (e : PySem.W.kitOne X.K t c = some b) (h : ∀ tk, Q (.bool b) { s with toks := tk }) :
    wpAny (model X.prog X.w) A (call (.builtin "isinstance") [u, c]) Q E s := by
  cases ty with
  | non => cases (show u = Value.none from rx); exact PySem.W.kia_one PySem.W.kitx_none I.kIn True.intro e (fun z => nomatch z) h
  | bl y => cases (show u = Value.bool y from rx); exact PySem.W.kia_one PySem.W.kitx_bool I.kIn True.intro e (fun z => nomatch z) h
  | int i => obtain ⟨t, q⟩ := (show ∃ t, u = Value.int i t from rx); cases q; exact PySem.W.kia_one PySem.W.kitx_int I.kIn True.intro e (fun z => nomatch z) h
  | str y => obtain ⟨t, q⟩ := (show ∃ t, u = Value.str y t from rx); cases q; exact PySem.W.kia_one PySem.W.kitx_str I.kIn True.intro e (fun z => nomatch z) h
  | flt y => obtain ⟨t, q⟩ := (show ∃ t, u = Value.float y t from rx); cases q; exact PySem.W.kia_one PySem.W.kitx_float I.kIn True.intro e (fun z => nomatch z) h
  | @lst a xs ea =>
    cases (show u = Value.ref a from rx)
    obtain ⟨_, _, n, _, h1⟩ := (show ObjOk X.prog X.w H s.heap a (.lst xs) from I.hok a _ ea)
    exact PySem.W.kia_one PySem.W.kitx_list I.kIn ⟨_, h1, rfl⟩ e (fun z => nomatch z) h
  | @frz a ob xs ea =>
    cases (show u = Value.ref a from rx)
    obtain ⟨_, _, _, n, _, h1⟩ := (show ObjOk X.prog X.w H s.heap a (.frz ob (.lst xs)) from I.hok a _ ea)
    exact PySem.W.kia_one PySem.W.kitx_list I.kIn ⟨_, h1, rfl⟩ e (fun z => nomatch z) h
  | @tup a xs ea =>
    cases (show u = Value.ref a from rx)
    obtain ⟨_, _, _, p⟩ := (show ObjOk X.prog X.w H s.heap a (.tup xs) from I.hok a _ ea)
    obtain ⟨o, h1, h2, _⟩ := p
    exact PySem.W.kia_one PySem.W.kitx_tuple I.kIn ⟨o, h1, h2⟩ e (fun z => nomatch z) h
  | @dK a kvs ea =>
    cases (show u = Value.ref a from rx)
    obtain ⟨_, _, vs, _, p⟩ := (show ObjOk X.prog X.w H s.heap a (.dK kvs) from I.hok a _ ea)
    obtain ⟨o, es, ep, h1, h2, _⟩ := p
    exact PySem.W.kia_one PySem.W.kitx_dict I.kIn ⟨o, h1, h2.1⟩ e (fun z => nomatch z) h
  | @dT a kvs ea =>
    cases (show u = Value.ref a from rx)
    obtain ⟨_, _, xs, _, o, es, ep, h1, h2, _⟩ := (show ObjOk X.prog X.w H s.heap a (.dT kvs) from I.hok a _ ea)
    exact PySem.W.kia_one PySem.W.kitx_dict I.kIn ⟨o, h1, h2.1⟩ e (fun z => nomatch z) h
  | @ins a C dx fs ea cl ha hn htk hm =>
    cases (show u = Value.ref a from rx)
    obtain ⟨mA, O, _⟩ := ins_get I.hok ea
    obtain ⟨od, J, _⟩ := O.look
    exact PySem.W.kia_one (PySem.W.kitx_own (cl.get _) cl.hd ha hn htk hm) I.kIn J e (fun z => nomatch z) h
end
end L2

namespace L2
open PySem PySem.Spec PyProof.Rows

structure Room (k : Nat) (A : Around) : Prop where
  hd : A.handled = none
  dp : A.depth + 3 * k + 5 < recursionLimit
  un : A.units + 16 * k + 200 < cLine
  gd : A.guards = some []
theorem Room.mono {j k : Nat} {A : Around} (r : Room k A) (h : j ≤ k) : Room j A := ⟨r.hd, by have := r.dp; omega, by have := r.un; omega, r.gd⟩
theorem Room.deeper {k : Nat} {A : Around} (r : Room (k + 1) A) (env : Env) : Room k (A.deeper env) :=
  ⟨r.hd, by have := r.dp; show A.depth + 1 + 3 * k + 5 < _; omega, by have := r.un; show A.units + 3 + 16 * k + 200 < _; omega, r.gd⟩
theorem Room.in1 {k : Nat} {A : Around} (r : Room (k + 1) A) : Room k A.in1 :=
  ⟨r.hd, by have := r.dp; show A.depth + 3 * k + 5 < _; omega, by have := r.un; show A.units + 1 + 16 * k + 200 < _; omega, r.gd⟩
theorem Room.depth {k : Nat} {A : Around} (r : Room k A) : A.depth < recursionLimit := by have := r.dp; omega
theorem Room.units {k : Nat} {A : Around} (r : Room k A) : A.units + 64 < cLine := by have := r.un; omega
theorem Room.units0 {k : Nat} {A : Around} (r : Room k A) : A.units < cLine := by have := r.un; omega

def tNil : TA := fun _ H Q => Q [] H
def tCons (ta : TE) (tr : TA) : TA := fun σ H Q => ta σ H fun x H1 => tr σ H1 fun xs H2 => Q (x :: xs) H2
section
variable {X : Cx} {e : Expr} {es : List Expr} {te : TE} {t : TA} {pos : Pos}
theorem pa_nil : PA X [] tNil := fun _ _ _ _ H Q I h => Calls.spliced_nil ⟨[], H, I, .nil, h⟩
theorem pa_cons (ha : PE X e te) (hr : PA X es t) (hs : starEach (e :: es) X.env = (false, eval e X.env) :: starEach es X.env := by rfl) : PA X (e :: es) (tCons te t) := by
  intro pos pins s σ H Q I h
  rw [hs]
  show wpAny _ _ (spliced ((false, eval e X.env) :: backTo pos (starEach es X.env))) _ _ s
  refine Calls.spliced_cons (thn (ha pins s σ H _ I h) fun u s1 ⟨x, H1, I1, r1, q1⟩ => ?_)
  exact thn (hr pos pins s1 σ H1 _ I1 q1) fun us s2 ⟨xs, H2, I2, r2, q2⟩ => ⟨x :: xs, H2, I2, .cons r1 r2, q2⟩

def tTup (t : TA) : TE := fun σ H Q => t σ H fun xs H1 => xs.length ≤ sizeLine ∧ ∀ p, H1 p = none → Q (.ref p) (upd H1 p (.tup xs))
def tLst (t : TA) : TE := fun σ H Q => t σ H fun xs H1 => xs.length ≤ sizeLine ∧ ∀ p, H1 p = none → Q (.ref p) (upd H1 p (.lst xs))
theorem pe_tup {x1} (h : PA X es t) : PE X (.Tuple es x1 pos) (tTup t) := by
  intro pins s σ H Q I hq
  refine wpAny_Tuple_spliced (thn (h pos pins s σ H _ I hq) fun us s1 ⟨xs, H1, I1, r, z, q⟩ => ⟨by rw [← r.length]; exact z, ?_⟩)
  have hf : H1 s1.heap.objs.size = none := I1.hok.fresh (Nat.le_refl _)
  refine ⟨.ref s1.heap.objs.size, upd H1 s1.heap.objs.size (.tup xs), I1.laid (t' := s1.toks) (fun b u e => Heap.get?_push_of_some _ e) (Nat.le_refl _) ?_, rfl, q _ hf⟩
  exact ⟨z, us, r, ⟨_, Heap.get?_push_size _ rfl, rfl, _, rfl⟩⟩
theorem pe_lst (h : PA X es t) : PE X (.List es pos) (tLst t) := by
  intro pins s σ H Q I hq
  refine wpAny_List_spliced (thn (h pos pins s σ H _ I hq) fun us s1 ⟨xs, H1, I1, r, z, q⟩ => ⟨by rw [← r.length]; exact z, ?_⟩)
  have hf : H1 s1.heap.objs.size = none := I1.hok.fresh (Nat.le_refl _)
  refine ⟨.ref s1.heap.objs.size, upd H1 s1.heap.objs.size (.lst xs), I1.laid (t' := s1.toks) (fun b u e => Heap.get?_push_of_some _ e) (Nat.le_refl _) ?_, rfl, q _ hf⟩
  exact ⟨z, us, 0, r, Heap.get?_push_size _ rfl⟩
end

abbrev Sp := List V → Hp → VK → XK → Prop
abbrev CXT := List Env → Hp → Shared → XK → Value → Shared → Prop

structure Env0 (P : Program) (w : World) (K : PySem.W.Frag) (mg : Str → Option Value) (base : Heap) (A : Around) (outer : List Env) (s : Shared) (H : Hp) : Prop where
  frames : A.frames = some outer
  mod : Mod K mg base
  bs : ∀ b o, base.get? b = some o → s.heap.get? b = some o ∧ H b = none
  bsz : base.objs.size ≤ s.heap.objs.size
  funs : s.heap.FunFrames base outer
  frf : ∀ b ∈ frs outer, H b = none
  hok : HOk P w H s.heap
  bare : AllBare s.gens
def CE (outer : List Env) (P : Program) (w : World) (H : Hp) (s : Shared) (Q : VK) (u : Value) (s' : Shared) : Prop :=
  ∃ v H', s'.os = s.os ∧ AllBare s'.gens ∧ Un (frs outer) [] H H' s.heap s'.heap ∧ HOk P w H' s'.heap ∧ RelV v u ∧ Q v H'
def CR (CX : CXT) (outer : List Env) (P : Program) (w : World) (H : Hp) (s : Shared) (Q : VK) (E : XK) (r : Result) (s' : Shared) : Prop :=
  match r with
  | .ok (.ret u) => CE outer P w H s Q u s'
  | .ok _ => False
  | .error e => CX outer H s E e s'
structure FnOk (P : Program) (w : World) (K : PySem.W.Frag) (mg : Str → Option Value) (base : Heap) (CX : CXT) (k : Nat) (f : Addr) (fd : FuncData) (ps : List Str) (sp : Sp) : Prop where
  len : ∀ vs H Q E, sp vs H Q E → vs.length = ps.length
  run : ∀ (A : Around) (outer : List Env) (s : Shared) (H : Hp) (args : Args) (us : List Value) (vs : List V) (Q : VK) (E : XK), Room k A → Env0 P w K mg base A outer s H → BindsTo s fd args (ps.zip us) → Vals vs us → sp vs H Q E →
    codeAny (model P w) A (.call (.ref f) args) (CR CX outer P w H s Q E) s
theorem FnOk.mono {P : Program} {w : World} {K : PySem.W.Frag} {mg : Str → Option Value} {base : Heap} {CX : CXT} {j k : Nat} {f : Addr} {fd : FuncData} {ps : List Str} {sp : Sp} (F : FnOk P w K mg base CX j f fd ps sp) (h : j ≤ k) :
    FnOk P w K mg base CX k f fd ps sp := ⟨F.len, fun A outer s H args us vs Q E hr => F.run A outer s H args us vs Q E (hr.mono h)⟩
theorem FnOk.imp {P : Program} {w : World} {K : PySem.W.Frag} {mg : Str → Option Value} {base : Heap} {CX : CXT} {k : Nat} {f : Addr} {fd : FuncData} {ps : List Str} {sp sp' : Sp} (F : FnOk P w K mg base CX k f fd ps sp)
    (h : ∀ vs H Q E, sp' vs H Q E → sp vs H Q E) : FnOk P w K mg base CX k f fd ps sp' :=
  ⟨fun vs H Q E q => F.len vs H Q E (h _ _ _ _ q), fun A outer s H args us vs Q E hr he hb hv hs => F.run A outer s H args us vs Q E hr he hb hv (h _ _ _ _ hs)⟩

theorem Env0.in1 {P : Program} {w : World} {K : PySem.W.Frag} {mg : Str → Option Value} {base : Heap} {A : Around} {outer : List Env} {s : Shared} {H : Hp} (e : Env0 P w K mg base A outer s H) :
    Env0 P w K mg base A.in1 outer s H := ⟨e.frames, e.mod, e.bs, e.bsz, e.funs, e.frf, e.hok, e.bare⟩

section
variable {X : Cx} {pins : List (Addr × Obj)} {σ : St} {H : Hp} {s s' : Shared}
theorem Inv.env0 (I : Inv X pins σ H s) : Env0 X.prog X.w X.K X.mg X.base X.A X.stack s H :=
  ⟨I.ok.frames, I.ok.mod, I.bs, Nat.le_trans I.ok.bsz I.sz, I.stack, I.stkFree, I.hok, I.bare⟩
theorem Inv.after {Q : VK} {u : Value} (I : Inv X pins σ H s) (h : CE X.stack X.prog X.w H s Q u s') : EP X pins σ Q u s' := by
  obtain ⟨v, H', os, bare, un, hok, r, q⟩ := h
  obtain ⟨hh, g, d, t, os'⟩ := s'
  obtain rfl : os' = s.os := os
  exact ⟨v, H', I.call (h' := hh) (g' := g) (d' := d) (t' := t) (ch := []) un hok bare (fun b z => absurd z (by simp)), r, q⟩
end

def tCall (sp : Sp) (dvs : List V) (E : XK) (t : TA) : TE := fun σ H Q => t σ H fun vs H1 => sp (vs ++ dvs) H1 Q E

def Binds (K : PySem.W.Frag) (fd : FuncData) (ps : List Str) (ds : List Value) : Prop :=
  ∀ (s : Shared) (us : List Value), K.In s.heap → (us ++ ds).length = ps.length → BindsTo s fd ⟨us, []⟩ (ps.zip (us ++ ds))
theorem Binds.all {K : PySem.W.Frag} {fd : FuncData} {ps : List Str} (h : ∀ us : List Value, us.length = ps.length → bindArgs fd ⟨us, []⟩ = pure (ps.zip us)) : Binds K fd ps [] := fun s us _ hl => by
  rw [List.append_nil] at hl ⊢
  exact .of_eq (h us hl)

def Passes (CX : CXT) (X : Cx) (E : XK) : Prop := ∀ (pins : List (Addr × Obj)) (σ : St) (H : Hp) (s : Shared) (e : Value) (s' : Shared), Inv X pins σ H s → CX X.stack H s E e s' → X.xe e s'

section
variable {X : Cx} {CX : CXT} {k : Nat} {f C : Addr} {fd : FuncData} {ps : List Str} {sp : Sp} {dvs : List V} {ds : List Value} {E : XK} {x m : Str} {p pos apos : Pos} {e o : Expr} {es : List Expr} {ta : TE} {t : TA}

theorem run_fn {pins : List (Addr × Obj)} {σ : St} {H : Hp} {s : Shared} {Q : VK} {us : List Value} {vs : List V} (F : FnOk X.prog X.w X.K X.mg X.base CX k f fd ps sp) (hr : Room k X.A) (hb : Binds X.K fd ps ds) (hd : Vals dvs ds) (hx : Passes CX X E)
    (I : Inv X pins σ H s) (r : Vals vs us) (h : sp (vs ++ dvs) H Q E) : wpAny (model X.prog X.w) X.A (call (.ref f) us) (EP X pins σ Q) X.xe s := by
  have r2 : Vals (vs ++ dvs) (us ++ ds) := r.append hd
  have hl : (us ++ ds).length = ps.length := by rw [← r2.length]; exact F.len _ _ _ _ h
  refine wpAny_call (codeAny_mono (F.run X.A X.stack s H ⟨us, []⟩ (us ++ ds) (vs ++ dvs) Q E hr I.env0 (hb s us I.kIn hl) r2 h) fun r s' hq => ?_)
  cases r with
  | error e => exact hx pins σ H s e s' I hq
  | ok fl =>
    cases fl with
    | ret u => exact I.after hq
    | next => exact False.elim hq
    | brk => exact False.elim hq
    | cont => exact False.elim hq

theorem pe_call (F : FnOk X.prog X.w X.K X.mg X.base CX k f fd ps sp) (hr : Room k X.A) (hg : Gl X x) (hm : X.mg x = some (.ref f)) (hk : PySem.W.keepIn X.K (.ref f) = true) (hb : Binds X.K fd ps ds) (hd : Vals dvs ds) (hx : Passes CX X E)
    (ha : PA X (e :: es) t) (hdb : (x == ("__debug__" : Str)) = false := by decide) (he : starEach (e :: es) X.env = (false, eval e X.env) :: starEach es X.env := by rfl) (hpl : (backTo pos (starEach es X.env)).any (·.1) = false := by rfl) :
    PE X (.Call (.Name x p) (e :: es) [] pos) (tCall sp dvs E t) := by
  intro pins s σ H Q I h
  refine wpAny_Call_Name_kw (ld_glob I hg hm ?_ hdb)
  refine PySem.W.callWith_K (h₀ := X.base) I.ok.mod.kin hk (thn (ha pos pins s σ H _ I h) fun us s1 ⟨vs, H1, I1, r, q⟩ => ⟨I1.kIn, ?_⟩) he hpl
  exact run_fn F hr hb hd hx I1 r q


structure Mk (K : PySem.W.Frag) (C f : Addr) : Prop where
  makes : PySem.W.makesIn K C = true
  init : PySem.W.findIn K (.ref C) "__init__" = some (some (.ref f))
  fn : PySem.W.isFn K (.ref f) = true
  kp : PySem.W.keepIn K (.ref C) = true

end

section
variable {X : Cx} {CX : CXT} {k : Nat} {f C : Addr} {fd : FuncData} {ps ks : List Str} {sp : Sp} {E : XK} {x m : Str} {p pos apos kpos : Pos} {e o : Expr} {es : List Expr} {kws : List Keyword} {te ta : TE} {t tk : TA} {nm : Option Str}

structure KBinds (K : PySem.W.Frag) (fd : FuncData) (ps ks : List Str) (g : List Value → List Value → List Value) (gV : List V → List V → List V) : Prop where
  to : ∀ (s : Shared) (us ws : List Value), K.In s.heap → (g us ws).length = ps.length → BindsTo s fd ⟨us, ks.zip ws⟩ (ps.zip (g us ws))
  rel : ∀ {vs : List V} {us : List Value} {zs : List V} {ws : List Value}, Vals vs us → Vals zs ws → Vals (gV vs zs) (g us ws)
variable {g : List Value → List Value → List Value} {gV : List V → List V → List V}
end

structure FnScope (N P : List Str) (sc : Scope) : Prop where
  kind : sc.kind = .function
  co : sc.isCoroutine = false
  gen : sc.isGenerator = false
  nd : N.Nodup
  pre : N.take P.length = P
  par : ∀ x ∈ P, sc.names.lookup x = some .local ∨ sc.names.lookup x = some .cell
  nofree : ∀ y ∈ sc.names, y.2 ≠ .free

theorem bindL_out {kindOf : Str → Option NameKind} {x : Str} : ∀ {binds : List (Str × Value)} {m : Str → Option Value}, (∀ v, (x, v) ∉ binds) → bindL kindOf binds m x = m x
  | [], _, _ => rfl
  | (n, v) :: r, m, h => by
    unfold bindL
    rw [bindL_out fun w hw => h w (List.mem_cons_of_mem _ hw)]
    split
    · have : x ≠ n := by rintro rfl; exact h v List.mem_cons_self
      simp [this]
    · rfl
theorem bindC_out {kindOf : Str → Option NameKind} {x : Str} : ∀ {binds : List (Str × Value)} {m : Str → Option Value}, (∀ v, (x, v) ∉ binds) → bindC kindOf binds m x = m x
  | [], _, _ => rfl
  | (n, v) :: r, m, h => by
    unfold bindC
    rw [bindC_out fun w hw => h w (List.mem_cons_of_mem _ hw)]
    split
    · rfl
    · have : x ≠ n := by rintro rfl; exact h v List.mem_cons_self
      simp [this]
theorem bindL_get {kindOf : Str → Option NameKind} {x : Str} {v : Value} : ∀ {P : List Str} {vs : List Value} {i : Nat} {m : Str → Option Value}, P.Nodup → P[i]? = some x → vs[i]? = some v → kindOf x = some .local →
    bindL kindOf (P.zip vs) m x = some v
  | [], _, _, _, _, h, _, _ => by simp at h
  | _ :: _, [], _, _, _, _, h, _ => by simp at h
  | p :: P, w :: vs, 0, m, nd, h1, h2, hk => by
    simp at h1 h2; subst h1; subst h2
    show bindL kindOf ((p, w) :: P.zip vs) m p = _
    unfold bindL
    rw [bindL_out fun v hv => (List.nodup_cons.mp nd).1 (List.of_mem_zip hv).1, if_pos hk]
    simp
  | p :: P, w :: vs, i + 1, m, nd, h1, h2, hk => by
    show bindL kindOf ((p, w) :: P.zip vs) m x = _
    unfold bindL
    exact bindL_get (i := i) (List.nodup_cons.mp nd).2 (by simpa using h1) (by simpa using h2) hk
theorem bindC_get {kindOf : Str → Option NameKind} {x : Str} {v : Value} : ∀ {P : List Str} {vs : List Value} {i : Nat} {m : Str → Option Value}, P.Nodup → P[i]? = some x → vs[i]? = some v → kindOf x ≠ some .local →
    bindC kindOf (P.zip vs) m x = some v
  | [], _, _, _, _, h, _, _ => by simp at h
  | _ :: _, [], _, _, _, _, h, _ => by simp at h
  | p :: P, w :: vs, 0, m, nd, h1, h2, hk => by
    simp at h1 h2; subst h1; subst h2
    show bindC kindOf ((p, w) :: P.zip vs) m p = _
    unfold bindC
    rw [bindC_out fun v hv => (List.nodup_cons.mp nd).1 (List.of_mem_zip hv).1, if_neg hk]
    simp
  | p :: P, w :: vs, i + 1, m, nd, h1, h2, hk => by
    show bindC kindOf ((p, w) :: P.zip vs) m x = _
    unfold bindC
    exact bindC_get (i := i) (List.nodup_cons.mp nd).2 (by simpa using h1) (by simpa using h2) hk

def start (N : List Str) (vs : List V) : St := vs.map some ++ List.replicate (N.length - vs.length) none

def cxOf (CX : CXT) (P : Program) (w : World) (K : PySem.W.Frag) (mg : Str → Option Value) (base : Heap) (N : List Str) (qual : Str) (scope : Scope) (f : Addr) (cd : Value) (A : Around) (outer : List Env) (s : Shared) (H : Hp) (E : XK) : Cx where
  prog := P
  w := w
  K := K
  mg := mg
  base := base
  A := A.deeper (envOfC qual scope s.heap.objs.size f cd)
  N := N
  s₀ := s
  H₀ := H
  env := envOfC qual scope s.heap.objs.size f cd
  outer := outer
  stack := envOfC qual scope s.heap.objs.size f cd :: outer
  ex := []
  calm := true
  fn := fun _ => true
  pn := []
  xe := fun e s' => wpAny (model P w) (A.deeper (envOfC qual scope s.heap.objs.size f cd)) (leaving (envOfC qual scope s.heap.objs.size f cd) e) (fun _ s'' => CX outer H s E e s'') (fun e' s'' => CX outer H s E e' s'') s'

theorem cell_has {sc : Scope} {n : Nat} {x : Str} (h : sc.names.lookup x = some .cell) : ∃ c, (cellsFrom n sc.names []).lookup x = some c := by
  have q := PySem.W.cellsFrom_some sc.names n [] (.inl h)
  exact Option.isSome_iff_exists.mp q

theorem inv_start {CX : CXT} {P : Program} {w : World} {K : PySem.W.Frag} {mg : Str → Option Value} {base : Heap} {N ps : List Str} {qual : Str} {scope : Scope} {f : Addr} {cd : Value} {A : Around} {outer : List Env} {s s1 : Shared} {H : Hp} {E : XK} {us : List Value} {vs : List V}
    (S : FnScope N ps scope) (hd : A.handled = none) (e0 : Env0 P w K mg base A outer s H) (hl : vs.length = ps.length) (r : Vals vs us)
    (x : InCallC s s.heap.objs.size (bindL (envOfC qual scope s.heap.objs.size f cd).kindOf (ps.zip us) fun _ => none) (cellsFrom (s.heap.objs.size + 1) scope.names []) (bindC (envOfC qual scope s.heap.objs.size f cd).kindOf (ps.zip us) fun _ => none) s1) :
    Inv (cxOf CX P w K mg base N qual scope f cd A outer s H E) [] (start N vs) H s1 := by
  have hpl : ps.length ≤ N.length := by have := congrArg List.length S.pre; rw [List.length_take] at this; omega
  obtain ⟨h1, tk, rfl, hk⟩ := x.done
  have noA : ∀ b : Addr, b ∉ (cxOf CX P w K mg base N qual scope f cd A outer s H E).ex := fun b z => absurd (show b ∈ ([] : List Addr) from z) (by simp)
  refine ⟨⟨e0.mod, S.kind, rfl, rfl, Nat.le_refl _, fun y z c h1 h2 => ?_, fun y hy => ?_, fun y c _ h => ?_, fun _ => hd, Around.frames_deeper e0.frames, .inr ⟨rfl, rfl⟩, fun b z => absurd z (noA b), e0.bs, e0.bsz, fun b _ _ => noA b, fun b z => absurd z (noA b), e0.funs, e0.frf⟩,
    rfl, e0.bare, Un.kept hk, ⟨_, x.toInCall.ns, fun i y v h1 h2 h3 => ?_⟩, fun y c h => ⟨_, x.cell y c h⟩, e0.hok.fresh (Nat.le_refl _), fun y c h => ?_, fun p hp => absurd (show p ∈ ([] : List (Addr × Obj)) from hp) (by simp), e0.hok.kept hk, ?_⟩
  · exact name_of_addr x.apart (PySem.mem_of_lookup h1) (PySem.mem_of_lookup h2)
  · have hy : scope.names.lookup y = some .cell ∨ scope.names.lookup y = some .free := hy
    rcases hy with hy | hy
    · exact cell_has hy
    · exact absurd rfl (S.nofree _ (PySem.mem_of_lookup hy))
  · exact Nat.le_of_lt (x.above y c (PySem.mem_of_lookup h))
  · have hi : i < vs.length := by
      unfold start at h2
      by_cases hi : i < vs.length
      · exact hi
      · rw [List.getElem?_append_right (by simpa using hi)] at h2
        rw [List.getElem?_replicate] at h2
        split at h2 <;> cases h2
    have ha : vs[i]? = some v := by
      unfold start at h2
      rw [List.getElem?_append_left (by simpa using hi), List.getElem?_map] at h2
      cases e : vs[i]? with
      | none => rw [e] at h2; cases h2
      | some a => rw [e] at h2; cases h2; rfl
    obtain ⟨u, hu, rv⟩ := r.get ha
    have hp : ps[i]? = some y := by
      rw [← S.pre, List.getElem?_take_of_lt (by omega)]; exact h1
    have ndP : ps.Nodup := by rw [← S.pre]; exact S.nd.sublist (List.take_sublist _ _)
    refine ⟨u, rv, ?_⟩
    rcases S.par y (List.mem_of_getElem? hp) with k | k
    · exact .inl ⟨k, bindL_get ndP hp hu k⟩
    · obtain ⟨c, e⟩ := cell_has (n := s.heap.objs.size + 1) k
      refine .inr ⟨.inl k, c, e, ?_⟩
      have q := x.cell y c e
      rw [bindC_get ndP hp hu (by show scope.names.lookup y ≠ _; rw [k]; decide)] at q
      exact q
  · exact e0.hok.fresh (Nat.le_of_lt (x.above y c (PySem.mem_of_lookup h)))
  · unfold start
    show _ = N.length
    rw [List.length_append, List.length_map, List.length_replicate]
    omega

theorem fn_of {CX : CXT} {P : Program} {w : World} {K : PySem.W.Frag} {mg : Str → Option Value} {base : Heap} {k : Nat} {f : Addr} {name qual : Str} {params : Arguments} {body : List Stmt} {scope : Scope} {dV kV doc pm cdv ct oc : Value} {an od : Option Addr}
    {osl : Array (Option Value)} {N ps : List Str} {sp : Sp} (lk : K.lookup f = some ⟨oc, od, .func (PySem.W.fnOf name qual params body scope dV kV doc pm an cdv ct), osl⟩) (hcd : PySem.W.codeIn K cdv qual = true) (S : FnScope N ps scope)
    (len : ∀ vs H Q E, sp vs H Q E → vs.length = ps.length)
    (hbody : ∀ (A : Around) (outer : List Env) (s : Shared) (H : Hp) (vs : List V) (Q : VK) (E : XK), Room k (A.deeper (envOfC qual scope s.heap.objs.size f cdv)) → sp vs H Q E →
      ∃ t, PSs (cxOf CX P w K mg base N qual scope f cdv A outer s H E) body t ∧ t { nx := fun _ H' => Q .non H', rt := Q } (start N vs) H) :
    FnOk P w K mg base CX (k + 1) f (PySem.W.fnOf name qual params body scope dV kV doc pm an cdv ct) ps sp := by
  refine ⟨len, fun A outer s H args us vs Q E hr e0 hb r hsp => ?_⟩
  have hl := len _ _ _ _ hsp
  have KX : K.In s.heap := e0.mod.kin.keeps fun b o e => (e0.bs b o e).1
  have lim : s.heap.NoLimit := e0.mod.nolimit.keeps fun b o e => (e0.bs b o e).1
  have hkind : ∀ y ∈ ps.zip us, scope.names.lookup y.1 = some .local ∨ (scope.names.lookup y.1 = some .cell ∧ ((cellsFrom (s.heap.objs.size + 1) scope.names []).lookup y.1).isSome = true) := fun ⟨n, v⟩ hy => by
    rcases S.par n (List.of_mem_zip hy).1 with q | q
    · exact .inl q
    · exact .inr ⟨q, PySem.W.cellsFrom_some _ _ _ (.inl q)⟩
  refine codeAny_call_function hr.depth (KX _ _ lk) rfl S.co S.gen rfl (PySem.W.codeRec_of KX hcd) (hb _ _ _ _ ?_)
  refine wpAny_newFunctionEnv_cells S.kind hkind fun env he s1 x => ?_
  subst he
  refine ⟨lim.keeps x.toInCall.keep, codeAny_func ?_⟩
  obtain ⟨t, ht, hq⟩ := hbody A outer s H vs Q E (hr.deeper _) hsp
  have I : Inv (cxOf CX P w K mg base N qual scope f cdv A outer s H E) [] (start N vs) H s1 := inv_start S hr.hd e0 hl r x
  refine wpAny_mono (ht [] s1 (start N vs) H _ I hq) (fun fl s' hs => ?_) fun e s' hs => hs
  have fin : ∀ {σ' : St} {H' : Hp} {v : V} {u : Value}, Inv (cxOf CX P w K mg base N qual scope f cdv A outer s H E) [] σ' H' s' → RelV v u → Q v H' → CE outer P w H s Q u s' :=
    fun {σ' H' v u} J rv q => ⟨v, H', J.os, J.bare, J.base, J.hok, rv, q⟩
  cases fl with
  | ret u =>
    obtain ⟨v, σ', H', J, rv, q⟩ := hs
    exact fin J rv q
  | next =>
    obtain ⟨σ', H', J, q⟩ := hs
    exact fin (v := V.non) (u := Value.none) J rfl q
  | brk =>
    obtain ⟨_, _, _, q⟩ := hs
    exact False.elim q
  | cont =>
    obtain ⟨_, _, _, q⟩ := hs
    exact False.elim q
end L2

namespace L2
open PySem PySem.Spec PyProof.Rows
section
variable {X : Cx} {x : Str} {p pos : Pos} {e : Expr} {es : List Expr} {t : TA} {id T : String} {r : List V → Hp → VK → Prop}

def tCB (r : List V → Hp → VK → Prop) (t : TA) : TE := fun σ H Q => t σ H fun vs H1 => r vs H1 Q
theorem pe_callB (hc : CallR X (.builtin id) r) (hg : Gl X x) (hm : X.mg x = none) (hv : bootBuiltins x = some (.builtin id)) (ha : PA X (e :: es) t) (hn : x ≠ "__name__" := by decide) (hdb : (x == ("__debug__" : Str)) = false := by decide)
    (he : starEach (e :: es) X.env = (false, eval e X.env) :: starEach es X.env := by rfl) (hpl : (backTo pos (starEach es X.env)).any (·.1) = false := by rfl) : PE X (.Call (.Name x p) (e :: es) [] pos) (tCB r t) := by
  intro pins s σ H Q I h
  refine wpAny_Call_Name_kw (ld_blt I hg hm hv ?_ hn hdb)
  exact PyProof.Rows.callWith_builtin1 (thn (ha pos pins s σ H _ I h) fun us s1 ⟨vs, H1, I1, r1, q1⟩ => hc pins s1 σ H1 vs us Q I1 r1 q1) he hpl
theorem pe_callTy (hc : CallR X (.type T) r) (hg : Gl X x) (hm : X.mg x = none) (hv : bootBuiltins x = some (.type T)) (ha : PA X (e :: es) t) (hn : x ≠ "__name__" := by decide) (hdb : (x == ("__debug__" : Str)) = false := by decide)
    (he : starEach (e :: es) X.env = (false, eval e X.env) :: starEach es X.env := by rfl) (hpl : (backTo pos (starEach es X.env)).any (·.1) = false := by rfl) : PE X (.Call (.Name x p) (e :: es) [] pos) (tCB r t) := by
  intro pins s σ H Q I h
  refine wpAny_Call_Name_kw (ld_blt I hg hm hv ?_ hn hdb)
  exact PyProof.Rows.callWith_type1 (thn (ha pos pins s σ H _ I h) fun us s1 ⟨vs, H1, I1, r1, q1⟩ => hc pins s1 σ H1 vs us Q I1 r1 q1) he hpl
end
end L2

namespace HT
open PySem PyProof.Rows



section
open PySem.SeqAt
open PySem.AutoSeq1 (wpAny_loadPart')
open PySem.MeetsSeq PySem.MeetsSeq2 PySem.MeetsSeq3

end

section
variable {prog : Program} {w : World} {A : Around} {E : Value → Shared → Prop} {s : Shared}




end
end HT

namespace L2
open PySem PySem.Spec PyProof.Rows

abbrev TO := St → Hp → (Option Int → Hp → Prop) → Prop

theorem intsAre_of {ns : List Int} : ∀ {us : List Value}, Vals (ns.map V.int) us → IntsAre us ns := by
  induction ns with
  | nil => intro us r; rw [List.map_nil] at r; cases r; exact .nil
  | cons n ns ih =>
    intro us r
    rw [List.map_cons] at r
    cases r with
    | cons r1 r2 =>
      obtain ⟨t, e⟩ := r1
      subst e
      exact .cons n t (ih r2)

section
variable {X : Cx} {e : Expr} {te : TE} {lo hi : Option Expr} {tl th : TO} {pos p2 : Pos}


def SlR (X : Cx) (r : V → Option Int → Option Int → Hp → VK → Prop) : Prop :=
  ∀ (pins : List (Addr × Obj)) (s : Shared) (σ : St) (H : Hp) (x : V) (v vl vu : Value) (lo hi : Option Int) (sl : Addr) (Q : VK), Inv X pins σ H s → RelV x v → s.heap.IsSliceOf sl vl vu .none → IsPart vl lo → IsPart vu hi → r x lo hi H Q →
    ∃ T id, typeLookup (.type T) "__getitem__" = pure (some (.builtin id)) ∧ s.TypeIs v T ∧ wpAny (model X.prog X.w) X.A (getItem v (.ref sl)) (EP X pins σ Q) X.xe s
theorem SlR.or {r r' : V → Option Int → Option Int → Hp → VK → Prop} (h : SlR X r) (h' : SlR X r') : SlR X (fun x lo hi H Q => r x lo hi H Q ∨ r' x lo hi H Q) := by
  intro pins s σ H x v vl vu lo hi sl Q I rx hs pl pu q
  rcases q with q | q
  · exact h pins s σ H x v vl vu lo hi sl Q I rx hs pl pu q
  · exact h' pins s σ H x v vl vu lo hi sl Q I rx hs pl pu q


end
end L2

namespace L2
open PySem PySem.Spec PyProof.Rows

def ixN (n : Nat) (i : Int) : Option Nat := if 0 ≤ i then (if i < n then some i.toNat else none) else if -(n : Int) ≤ i then some (i + n).toNat else none
def atI {α : Type} (xs : List α) (i : Int) : Option α := (ixN xs.length i).bind fun j => xs[j]?
theorem ixN_seq {n : Nat} {i : Int} {j : Nat} (h : ixN n i = some j) : seqIndex? i n = some j ∧ j < n ∧ -(n : Int) ≤ i ∧ i < n := by
  unfold ixN at h
  by_cases h0 : 0 ≤ i
  · rw [if_pos h0] at h
    by_cases h1 : i < n
    · rw [if_pos h1] at h
      have e : i.toNat = j := Option.some.inj h
      exact ⟨by rw [seqIndex_of h0 h1, e], by omega, by omega, h1⟩
    · rw [if_neg h1] at h; cases h
  · rw [if_neg h0] at h
    by_cases h1 : -(n : Int) ≤ i
    · rw [if_pos h1] at h
      have e : (i + n).toNat = j := Option.some.inj h
      exact ⟨by rw [seqIndex_neg (by omega) h1, e], by omega, h1, by omega⟩
    · rw [if_neg h1] at h; cases h
theorem atI_get {α : Type} {xs : List α} {i : Int} {v : α} (h : atI xs i = some v) : ∃ j, seqIndex? i xs.length = some j ∧ xs[j]? = some v ∧ j < xs.length ∧ -(xs.length : Int) ≤ i ∧ i < xs.length := by
  unfold atI at h
  cases e : ixN xs.length i with
  | none => rw [e] at h; cases h
  | some j =>
    rw [e] at h
    obtain ⟨h1, h2, h3, h4⟩ := ixN_seq e
    exact ⟨j, h1, h, h2, h3, h4⟩

def PlainIx (b : Expr) : Prop := ∀ o i, subscripted b false o i = operate [o, i] (getItem o i)
def IxR (X : Cx) (r : R2) : Prop :=
  ∀ (value slice : Expr) (pins : List (Addr × Obj)) (s : Shared) (σ : St) (H : Hp) (x y : V) (v u : Value) (Q : VK), Inv X pins σ H s → RelV x v → RelV y u → r x y H Q →
    subscripted slice false v u = operate [v, u] (getItem v u) → wpAny (model X.prog X.w) X.A (subscriptTail value slice v u) (EP X pins σ Q) X.xe s
def MtR (X : Cx) (id : String) (r : V → List V → Hp → VK → Prop) : Prop :=
  ∀ (pins : List (Addr × Obj)) (s : Shared) (σ : St) (H : Hp) (x : V) (xs : List V) (v : Value) (us : List Value) (Q : VK), Inv X pins σ H s → RelV x v → Vals xs us → r x xs H Q →
    wpAny (model X.prog X.w) X.A (call (.builtin id) (v :: us)) (EP X pins σ Q) X.xe s
section
variable {X : Cx} {a b : Expr} {ta tb : TE} {pos : Pos}
theorem IxR.or {r r' : R2} (h : IxR X r) (h' : IxR X r') : IxR X (fun x y H Q => r x y H Q ∨ r' x y H Q) := by
  intro value slice pins s σ H x y v u Q I rx ry q hs
  rcases q with q | q
  · exact h value slice pins s σ H x y v u Q I rx ry q hs
  · exact h' value slice pins s σ H x y v u Q I rx ry q hs
theorem MtR.or {id : String} {r r' : V → List V → Hp → VK → Prop} (h : MtR X id r) (h' : MtR X id r') : MtR X id (fun x xs H Q => r x xs H Q ∨ r' x xs H Q) := by
  intro pins s σ H x xs v us Q I rx rs q
  rcases q with q | q
  · exact h pins s σ H x xs v us Q I rx rs q
  · exact h' pins s σ H x xs v us Q I rx rs q
theorem pe_ix {r : R2} (hr : IxR X r) (ha : PE X a ta) (hb : PE X b tb) (hs : PlainIx b) : PE X (.Subscript a b pos) (tOp r ta tb) := by
  intro pins s σ H Q I h
  exact Subscript_ (binT ha hb I h fun v u s2 x y H2 I2 rx ry q => hr a b pins s2 σ H2 x y v u Q I2 rx ry q (hs _ _))

def rIxL (K : PySem.W.Frag) : R2 := fun x y H Q => ∃ p xs i v, x = .ref p ∧ y = .int i ∧ SqL K H p xs ∧ atI xs i = some v ∧ Q v H
def rIxT (K : PySem.W.Frag) : R2 := fun x y H Q => ∃ p xs i v, x = .ref p ∧ y = .int i ∧ SqT K H p xs ∧ atI xs i = some v ∧ Q v H
theorem ix_list : IxR X (rIxL X.K) := by
  intro value slice pins s σ H x y v u Q I rx ry h hs
  obtain ⟨p, xs, i, z, rfl, rfl, hq, he, q⟩ := h
  cases rx
  obtain ⟨t, rfl⟩ := ry
  obtain ⟨its, r, pl, hz⟩ := I.list hq
  obtain ⟨j, h1, h2, h3, h4, h5⟩ := atI_get he
  obtain ⟨w, ew, rw'⟩ := r.get h2
  have hl := r.length
  have hn := line63
  have fin : EP X pins σ Q w s := ⟨z, H, I, rw', q⟩
  by_cases h0 : 0 ≤ i
  · have hj : i.toNat = j := by
      rw [seqIndex_of h0 h5] at h1
      exact Option.some.inj h1
    exact item_listR pl.isList h0 (by omega) (by rw [hj]; simpa using ew) fin hs
  · have hj : (i + (its.toArray.size : Int)).toNat = j := by
      rw [seqIndex_neg (by omega) h4] at h1
      rw [List.size_toArray, ← hl]
      exact Option.some.inj h1
    exact subscriptTail_builtinR (x := w) pl.isList.typeIs slot_list_getitem.lookup
      (wpAny_getItem_list_neg (Q := fun r s' => r = w ∧ EP X pins σ Q r s') pl.isList (by omega) (by rw [List.size_toArray] <;> omega) (by omega) (by rw [hj]; simpa using ew) ⟨rfl, fin⟩) hs
theorem ix_tup : IxR X (rIxT X.K) := by
  intro value slice pins s σ H x y v u Q I rx ry h hs
  obtain ⟨p, xs, i, z, rfl, rfl, hq, he, q⟩ := h
  cases rx
  obtain ⟨t, rfl⟩ := ry
  obtain ⟨its, r, pl, hz⟩ := I.tuple hq
  obtain ⟨j, h1, h2, h3, h4, h5⟩ := atI_get he
  obtain ⟨w, ew, rw'⟩ := r.get h2
  have hl := r.length
  have hn := line63
  have fin : EP X pins σ Q w s := ⟨z, H, I, rw', q⟩
  exact subscriptTail_builtinR (x := w) pl.typeIs slot_tuple_getitem.lookup
    (getItem_tuple (j := j) (Q := fun r s' => r = w ∧ EP X pins σ Q r s') pl (by omega) (by omega) (by rw [List.size_toArray, ← hl]; exact h1) (by simpa using ew) ⟨rfl, fin⟩) hs

theorem mapSeq_set (its : List Value) (n j : Nat) (u : Value) : Obj.mapSeq (·.setIfInBounds j u) { cls := .type "list", data := .seq its.toArray n } = { cls := .type "list", data := .seq (its.set j u).toArray n } := by
  simp [Obj.mapSeq]
theorem Inv.lst {pins : List (Addr × Obj)} {σ : St} {H : Hp} {s : Shared} {p : Addr} {xs : List V} (I : Inv X pins σ H s) (h : H p = some (.lst xs)) :
    ∃ (its : List Value) (n : Nat), Vals xs its ∧ s.heap.get? p = some { cls := .type "list", data := .seq its.toArray n } ∧ xs.length ≤ sizeLine := by
  obtain ⟨z, its, n, r, e⟩ := I.hok p _ h
  exact ⟨its, n, r, e, z⟩
theorem Inv.lstUpd {pins : List (Addr × Obj)} {σ : St} {H : Hp} {s : Shared} {p : Addr} {xs ys : List V} {its its' : List Value} {n n' : Nat} {f : Obj → Obj} (I : Inv X pins σ H s) (h : H p = some (.lst xs))
    (ho : s.heap.get? p = some { cls := .type "list", data := .seq its.toArray n }) (hf : f { cls := .type "list", data := .seq its.toArray n } = { cls := .type "list", data := .seq its'.toArray n' }) (r : Vals ys its') (hz : ys.length ≤ sizeLine) (t : Nat) :
    Inv X pins σ (upd H p (.lst ys)) { s with heap := s.heap.update p f, toks := t } := by
  have e : (s.heap.update p f).get? p = some { cls := .type "list", data := .seq its'.toArray n' } := by
    rw [Heap.get?_update_self f ho (by rw [hf] <;> rfl), hf]
  refine I.write (x := p) (e := p) (by rw [h]; trivial) (.inl rfl) (fun b u hb q => (Heap.get?_update_other _ _ (Ne.symm hb)).trans q) ⟨_, e⟩ ?_
  exact ⟨hz, its', n', r, e⟩
def rSetL : V → V → V → Hp → (Hp → Prop) → Prop := fun o i v H Q => ∃ p xs k j, o = .ref p ∧ i = .int k ∧ H p = some (.lst xs) ∧ ixN xs.length k = some j ∧ Q (upd H p (.lst (xs.set j v)))
theorem set_list : PSet X rSetL := by
  intro pins s σ H o i v ov iv u Q I ro ri rv h
  obtain ⟨p, xs, k, j, rfl, rfl, hp, hj, q⟩ := h
  cases ro
  obtain ⟨t, rfl⟩ := ri
  obtain ⟨its, n, r, ho, hz⟩ := I.lst hp
  obtain ⟨h1, h2, h3, h4⟩ := ixN_seq hj
  have hl := r.length
  have hn := line63
  have I' : Inv X pins σ (upd H p (.lst (xs.set j v))) { s with heap := s.heap.update p (Obj.mapSeq (·.setIfInBounds j u)) } :=
    I.lstUpd hp ho (mapSeq_set its n j u) (r.set rv j) (by rw [List.length_set]; exact hz) s.toks
  by_cases h0 : 0 ≤ k
  · have hk : k.toNat = j := by
      rw [seqIndex_of h0 h4] at h1
      exact Option.some.inj h1
    exact PySem.W.ki_setAt ho h0 (by omega) (by rw [List.size_toArray, ← hl]; exact h4) (by rw [hk]; exact ⟨_, I', q⟩)
  · have hk : (k + (its.toArray.size : Int)).toNat = j := by
      rw [seqIndex_neg (by omega) h3] at h1
      rw [List.size_toArray, ← hl]
      exact Option.some.inj h1
    exact PySem.W.ki_setBack ho (by omega) (by rw [List.size_toArray, ← hl]; exact h3) (by omega) (by rw [hk]; exact ⟨_, I', q⟩)


def flatV : V → Bool
  | .non => true
  | .bl _ => true
  | .int _ => true
  | .str _ => true
  | _ => false
def eqV : V → V → Bool
  | .non, .non => true
  | .bl a, .bl b => a == b
  | .bl a, .int b => (if a then 1 else 0) == b
  | .int a, .bl b => a == (if b then 1 else 0)
  | .int a, .int b => a == b
  | .str a, .str b => a == b
  | _, _ => false
theorem eqAt_V {A : Around} {s : Shared} {y x : V} {u v : Value} (ry : RelV y u) (rx : RelV x v) (fy : flatV y = true) (fx : flatV x = true) : SeqAt.EqAt A s u v (eqV y x) := by
  cases y with
  | non =>
    cases ry
    cases x with
    | non => cases rx; exact SeqAt.EqAt.same _
    | bl b => cases rx; exact SeqAt.EqAt.none_bool b
    | int b => obtain ⟨t, rfl⟩ := rx; exact SeqAt.EqAt.none_int b t
    | str b => obtain ⟨t, rfl⟩ := rx; exact SeqAt.EqAt.none_str b t
    | _ => exact absurd (show false = true from fx) Bool.false_ne_true
  | bl a =>
    cases ry
    cases x with
    | non => cases rx; exact SeqAt.EqAt.bool_none a
    | bl b => cases rx; exact SeqAt.EqAt.bool_bool a b
    | int b => obtain ⟨t, rfl⟩ := rx; exact SeqAt.EqAt.bool_int a b t
    | str b => obtain ⟨t, rfl⟩ := rx; exact SeqAt.EqAt.bool_str a b t
    | _ => exact absurd (show false = true from fx) Bool.false_ne_true
  | int a =>
    obtain ⟨t', rfl⟩ := ry
    cases x with
    | non => cases rx; exact SeqAt.EqAt.int_none a t'
    | bl b => cases rx; exact SeqAt.EqAt.int_bool a t' b
    | int b => obtain ⟨t, rfl⟩ := rx; exact SeqAt.EqAt.int_int a t' b t
    | str b => obtain ⟨t, rfl⟩ := rx; exact SeqAt.EqAt.int_str a t' b t
    | _ => exact absurd (show false = true from fx) Bool.false_ne_true
  | str a =>
    obtain ⟨t', rfl⟩ := ry
    cases x with
    | non => cases rx; exact SeqAt.EqAt.str_none a t'
    | bl b => cases rx; exact SeqAt.EqAt.str_bool a t' b
    | int b => obtain ⟨t, rfl⟩ := rx; exact SeqAt.EqAt.str_int a t' b t
    | str b => obtain ⟨t, rfl⟩ := rx; exact SeqAt.EqAt.str_str a t' b t
    | _ => exact absurd (show false = true from fx) Bool.false_ne_true
  | _ => exact absurd (show false = true from fy) Bool.false_ne_true

theorem call_len_seq : CallR X (.builtin "len") (fun xs H Q => ∃ p ys, xs = [.ref p] ∧ (SqL X.K H p ys ∨ SqT X.K H p ys) ∧ Q (.int ys.length) H) := by
  intro pins s σ H xs us Q I r h
  obtain ⟨p, ys, rfl, hq, q⟩ := h
  obtain ⟨u, rfl, rx⟩ := vals1 r
  cases rx
  have hn := line63
  rcases hq with hq | hq
  · obtain ⟨its, r', pl, hz⟩ := I.list hq
    have hlen := r'.length
    exact Calls.call_len_list pl.isList (by simp only [List.size_toArray] <;> omega) ⟨.int ys.length, H, I.tok _, ⟨s.toks + 1, by rw [List.size_toArray, hlen]⟩, q⟩
  · obtain ⟨its, r', pl, hz⟩ := I.tuple hq
    have hlen := r'.length
    exact len_tuple pl (by simp only [List.size_toArray] <;> omega) ⟨.int ys.length, H, I.tok _, ⟨s.toks + 1, by rw [List.size_toArray, hlen]⟩, q⟩
theorem CallR.or {f : Value} {r r' : List V → Hp → VK → Prop} (h : CallR X f r) (h' : CallR X f r') : CallR X f (fun xs H Q => r xs H Q ∨ r' xs H Q) := by
  intro pins s σ H xs us Q I rs q
  rcases q with q | q
  · exact h pins s σ H xs us Q I rs q
  · exact h' pins s σ H xs us Q I rs q
theorem call_list_of : CallR X (.type "list") (fun xs H Q => ∃ p ys, xs = [.ref p] ∧ (SqL X.K H p ys ∨ SqT X.K H p ys) ∧ ∀ l, H l = none → Q (.ref l) (upd H l (.lst ys))) := by
  intro pins s σ H xs us Q I r h
  obtain ⟨p, ys, rfl, hq, q⟩ := h
  obtain ⟨u, rfl, rx⟩ := vals1 r
  cases rx
  have fin : ∀ (its : List Value), Vals ys its → ys.length ≤ sizeLine → ∀ (h' : Heap) (c' : Nat), (∀ b o', s.heap.get? b = some o' → h'.get? b = some o') →
      h'.get? s.heap.objs.size = some { cls := .type "list", dict := none, data := .seq its.toArray c', slots := #[] } → EP X pins σ Q (.ref s.heap.objs.size) { s with heap := h' } := fun its r' hz h' c' kp e =>
    ⟨.ref s.heap.objs.size, _, I.laid (t' := s.toks) kp (Nat.le_refl _) (show ObjOk X.prog X.w _ h' _ (.lst ys) from ⟨hz, its, c', r', e⟩), rfl, q _ (I.hok.fresh (Nat.le_refl _))⟩
  rcases hq with hq | hq
  · obtain ⟨its, r', pl, hz⟩ := I.list hq
    have hlen := r'.length
    obtain ⟨o, ho, hc, n, hd⟩ := pl.isList
    exact call_list_seq p (.inl rfl) ho hc hd (fun h' c' kp e => fin its r' hz h' c' kp e) (by simp only [List.size_toArray] <;> omega)
  · obtain ⟨its, r', pl, hz⟩ := I.tuple hq
    have hlen := r'.length
    obtain ⟨o, ho, hc, n, hd⟩ := pl
    exact call_list_seq p (.inr rfl) ho hc hd (fun h' c' kp e => fin its r' hz h' c' kp e) (by simp only [List.size_toArray] <;> omega)
theorem call_tuple_of : CallR X (.type "tuple") (fun xs H Q => ∃ p ys, xs = [.ref p] ∧ ((SqL X.K H p ys ∧ ∀ l, H l = none → Q (.ref l) (upd H l (.tup ys))) ∨ (SqT X.K H p ys ∧ Q (.ref p) H))) := by
  intro pins s σ H xs us Q I r h
  obtain ⟨p, ys, rfl, h⟩ := h
  obtain ⟨u, rfl, rx⟩ := vals1 r
  cases rx
  rcases h with ⟨hq, q⟩ | ⟨hq, q⟩
  · obtain ⟨its, r', pl, hz⟩ := I.list hq
    have hlen := r'.length
    refine call_tuple_list pl.isList (fun h' kp => ?_) (by simp only [List.size_toArray] <;> omega)
    have I1 : Inv X pins σ H { s with heap := h' } := I.kept (t' := s.toks) kp
    have I2 : Inv X pins σ (upd H h'.objs.size (.tup ys)) { s with heap := h'.push { cls := .type "tuple", data := .seq its.toArray } } :=
      I1.laid (t' := s.toks) (fun b o e => Heap.get?_push_of_some _ e) (Nat.le_refl _) (show ObjOk X.prog X.w _ _ _ (.tup ys) from ⟨hz, its, r', IsTup.new _ _⟩)
    exact ⟨.ref h'.objs.size, _, I2, rfl, q _ (I1.hok.fresh (Nat.le_refl _))⟩
  · obtain ⟨its, r', pl, hz⟩ := I.tuple hq
    exact call_tuple_same pl ⟨.ref p, H, I, rfl, q⟩

def tyV (K : PySem.W.Frag) (T : String) (x : V) (H : Hp) : Prop := match x with
  | .str _ => T = "str"
  | .int _ => T = "int"
  | .ref p => (T = "list" ∧ ∃ xs, SqL K H p xs) ∨ (T = "tuple" ∧ ∃ o, K.lookup p = some o ∧ o.cls = .type "tuple" ∧ o.dict = none) ∨
      (T = "dict" ∧ ((∃ kvs, H p = some (.dK kvs)) ∨ ∃ kvs, H p = some (.dT kvs))) ∨ (T = "set" ∧ ∃ S n, H p = some (.set S n))
  | _ => False
theorem tyV_is {pins : List (Addr × Obj)} {σ : St} {H : Hp} {s : Shared} {T : String} {x : V} {v : Value} (I : Inv X pins σ H s) (r : RelV x v) (ty : tyV X.K T x H) :
    s.TypeIs v T ∧ ∀ a, v = .ref a → ∃ ob, s.heap.get? a = some ob ∧ ob.dict = none := by
  cases x with
  | str z =>
    obtain ⟨t, rfl⟩ := r
    cases (show T = "str" from ty)
    exact ⟨typeIs_str s z t, fun _ e => nomatch e⟩
  | int i =>
    obtain ⟨t, rfl⟩ := r
    cases (show T = "int" from ty)
    exact ⟨typeIs_int s i t, fun _ e => nomatch e⟩
  | ref p =>
    cases r
    rcases ty with ⟨rfl, xs, hq⟩ | ⟨rfl, o, hk, hc, hd⟩ | ⟨rfl, hk⟩ | ⟨rfl, S, n, hk⟩
    · obtain ⟨its, _, pl, _⟩ := I.list hq
      refine ⟨pl.isList.typeIs, fun a e => ?_⟩
      cases e
      obtain ⟨o, n, e, c, hd, _⟩ := pl
      exact ⟨o, e, hd⟩
    · refine ⟨⟨o, I.kIn p o hk, hc⟩, fun a e => ?_⟩
      cases e
      exact ⟨o, I.kIn _ o hk, hd⟩
    · have z : ∃ o, s.heap.get? p = some o ∧ o.ExactDict := by
        rcases hk with ⟨kvs, hk⟩ | ⟨kvs, hk⟩
        · obtain ⟨_, _, _, _, o, _, _, e, ex, _⟩ := I.hok p _ hk
          exact ⟨o, e, ex⟩
        · obtain ⟨_, _, _, _, o, _, _, e, ex, _⟩ := I.hok p _ hk
          exact ⟨o, e, ex⟩
      obtain ⟨o, e, ex⟩ := z
      refine ⟨⟨o, e, ex.1⟩, fun a e2 => ?_⟩
      cases e2
      exact ⟨o, e, ex.2.1⟩
    · obtain ⟨o, _, _, _, e, ex, _⟩ := I.hok p _ hk
      refine ⟨⟨o, e, ex.1⟩, fun a e2 => ?_⟩
      cases e2
      exact ⟨o, e, ex.2.1⟩
  | _ => exact False.elim ty
def tBM (K : PySem.W.Frag) (T : String) (r : V → List V → Hp → VK → Prop) (to : TE) (t : TA) : TE := fun σ H Q => to σ H fun x H1 => tyV K T x H1 ∧ t σ H1 fun xs H2 => r x xs H2 Q
variable {o e : Expr} {es : List Expr} {to : TE} {t : TA} {name : Str} {apos cpos : Pos} {T id : String} {r : V → List V → Hp → VK → Prop}
theorem pe_bm (pa : PlainAttrs T) (slot : Slot T name id) (hty : typeOf (.builtin id) = pure (.type "method_descriptor")) (hm : MtR X id r) (ho : PE X o to) (ha : PA X (e :: es) t)
    (hbase : attributeBase o name X.env (eval o X.env) = eval o X.env := by rfl)
    (hfew : ((backTo cpos (starEach (e :: es) X.env)).all (fun x => !x.1) && (backToKw cpos (keywordEach [] X.env)).all (fun x => x.1.isSome)
      && decide ((e :: es).length + ([] : List Keyword).length + (if ([] : List Keyword).isEmpty then 0 else 1) < 30)) = true := by rfl)
    (hline : (apos.endLine == cpos.line) = true := by rfl) (hs : starEach (e :: es) X.env = (false, eval e X.env) :: starEach es X.env := by rfl) (hplain : (backTo cpos (starEach es X.env)).any (·.1) = false := by rfl) :
    PE X (.Call (.Attribute o name apos) (e :: es) [] cpos) (tBM X.K T r to t) := by
  intro pins s σ H Q I h
  refine wpAny_Call_method_late hbase hfew hline rfl (thn (ho pins s σ H _ I h) fun v s1 ⟨x, H1, I1, r1, ty, q1⟩ => ?_)
  obtain ⟨h1, h2⟩ := tyV_is I1 r1 ty
  refine ⟨T, id, pa, slot, hty, h1, h2, ?_⟩
  have hA := ha cpos pins s1 σ H1 _ I1 q1
  rw [hs] at hA ⊢
  refine Calls.callWith_builtin (by show (false || (backTo cpos (starEach es X.env)).any (·.1)) = false; rw [hplain] <;> rfl) (Calls.evalArgs_plain ?_)
  exact thn hA fun us s2 ⟨vs, H2, I2, r2, q2⟩ => hm pins s2 σ H2 x vs v us Q I2 r1 r2 q2
end
end L2

namespace L2
open PySem PySem.Spec PyProof.Rows

def MtM (X : Cx) (id : String) (r : V → List V → Hp → VK → Prop) : Prop :=
  ∀ (pins : List (Addr × Obj)) (s : Shared) (σ : St) (H : Hp) (x : V) (xs : List V) (v : Value) (us : List Value) (Q : VK), Inv X pins σ H s → RelV x v → Vals xs us → r x xs H Q →
    wpAny (model X.prog X.w) X.A (call (.builtin id) (v :: us)) (EP X pins σ Q) X.xe s

theorem Vals.one : ∀ {x : V} {us : List Value}, Vals [x] us → ∃ u, us = [u] ∧ RelV x u
  | _, _, .cons r .nil => ⟨_, rfl, r⟩
theorem Vals.two : ∀ {x y : V} {us : List Value}, Vals [x, y] us → ∃ u v, us = [u, v] ∧ RelV x u ∧ RelV y v
  | _, _, _, .cons r (.cons q .nil) => ⟨_, _, rfl, r, q⟩
theorem Vals.zero : ∀ {us : List Value}, Vals [] us → us = []
  | _, .nil => rfl
theorem Vals.dropLast {xs : List V} {us : List Value} (h : Vals xs us) : Vals xs.dropLast us.dropLast := by
  induction h with
  | nil => exact .nil
  | cons r t ih =>
    cases t with
    | nil => exact .nil
    | cons q t' => exact .cons r ih
theorem Vals.reverse {xs : List V} {us : List Value} (h : Vals xs us) : Vals xs.reverse us.reverse := by
  induction h with
  | nil => exact .nil
  | cons r t ih => rw [List.reverse_cons, List.reverse_cons]; exact Vals.append ih (.cons r .nil)
theorem Vals.rep {xs : List V} {us : List Value} (h : Vals xs us) : ∀ k : Nat, Vals (List.replicate k xs).flatten (List.replicate k us).flatten
  | 0 => .nil
  | k + 1 => by
    rw [List.replicate_succ, List.replicate_succ, List.flatten_cons, List.flatten_cons]
    exact Vals.append h (Vals.rep h k)
theorem foldl_rep (its : List Value) : ∀ (k : Nat) (acc : List Value),
    List.foldl (fun x1 x2 => x1 ++ x2) acc.toArray (List.replicate k its.toArray) = (acc ++ (List.replicate k its).flatten).toArray
  | 0, acc => by simp
  | k + 1, acc => by
    have e : acc.toArray ++ its.toArray = (acc ++ its).toArray := by simp
    have e2 : (acc ++ its) ++ (List.replicate k its).flatten = acc ++ (List.replicate (k + 1) its).flatten := by
      rw [List.replicate_succ, List.flatten_cons, List.append_assoc]
    rw [← e2, ← foldl_rep its k (acc ++ its), ← e, List.replicate_succ, List.foldl_cons]

section
variable {X : Cx} {pins : List (Addr × Obj)} {σ : St} {H : Hp} {s : Shared} {l b : Addr} {xs ys zs : List V}

theorem Inv.lset {its its' : List Value} {n : Nat} {f : Array Value → Array Value} {t' : Nat} (I : Inv X pins σ H s) (hH : H l = some (.lst xs))
    (e : s.heap.get? l = some { cls := .type "list", data := .seq its.toArray n }) (hf : f its.toArray = its'.toArray) (hv : Vals ys its') (hz : ys.length ≤ sizeLine) :
    Inv X pins σ (upd H l (.lst ys)) { s with heap := s.heap.update l (Obj.mapSeq f), toks := t' } := by
  have q := PySem.IsL.update e f
  rw [hf] at q
  refine I.write (x := l) (e := l) (by rw [hH]; exact trivial) (.inl rfl) (fun b' u hb hu => (Heap.get?_update_other s.heap (Obj.mapSeq f) (Ne.symm hb)).trans hu) ⟨_, q⟩ ?_
  exact ⟨hz, its', _, hv, q⟩
theorem Inv.lnew {its : List Value} {t' : Nat} (I : Inv X pins σ H s) (hv : Vals ys its) (hz : ys.length ≤ sizeLine) :
    Inv X pins σ (upd H s.heap.objs.size (.lst ys)) { s with heap := s.heap.push { cls := .type "list", data := .seq its.toArray }, toks := t' } :=
  I.laid (fun _ _ q => Heap.get?_push_of_some _ q) (Nat.le_refl _) ⟨hz, its, 0, hv, Heap.get?_push_size _ rfl⟩
theorem Inv.fresh (I : Inv X pins σ H s) : H s.heap.objs.size = none := I.hok.fresh (Nat.le_refl _)
theorem Inv.lstM (I : Inv X pins σ H s) (hH : H l = some (.lst xs)) : xs.length ≤ sizeLine ∧ ∃ (its : List Value) (n : Nat), Vals xs its ∧ xs.length = its.length ∧ s.heap.get? l = some { cls := .type "list", data := .seq its.toArray n } := by
  obtain ⟨z, its, n, r, e⟩ := I.hok l _ hH
  exact ⟨z, its, n, r, r.length, e⟩

theorem notLongL {n : Nat} (h : n ≤ sizeLine) : Builtin.List.listTooLong n = false := by
  unfold Builtin.List.listTooLong
  exact decide_eq_false (by omega)
end

section
variable {X : Cx}

def rAppend : V → List V → Hp → VK → Prop := fun x vs H Q => ∃ l xs y, x = .ref l ∧ vs = [y] ∧ H l = some (.lst xs) ∧ xs.length < sizeLine ∧ Q .non (upd H l (.lst (xs ++ [y])))
theorem mt_append : MtM X "list.append" rAppend := by
  intro pins s σ H x vs v us Q I rx rv h
  obtain ⟨l, xs, y, rfl, rfl, hH, hz, q⟩ := h
  cases rx
  obtain ⟨u, rfl, ru⟩ := rv.one
  obtain ⟨z, its, n, r, hl, e⟩ := I.lstM hH
  refine call_meets F.slot_list_append ⟨_, e, rfl⟩ F.entry_list_append (F.args_list_append_2 _ _) (PySem.list_append l its.toArray n u (by rw [List.size_toArray]; omega)) ⟨e, ?_⟩
  refine ⟨.non, _, I.lset (its' := its ++ [u]) hH e (by simp) (r.append (.cons ru .nil)) ?_, rfl, q⟩
  rw [List.length_append, List.length_singleton]
  omega






def rRep : R2 := fun x y H Q => ∃ l k xs, x = .ref l ∧ y = .int k ∧ H l = some (.lst xs) ∧ -(2 ^ 63) ≤ k ∧ k < 2 ^ 63 ∧ xs.length * k.toNat ≤ sizeLine ∧
  ∀ p, H p = none → Q (.ref p) (upd H p (.lst (List.replicate k.toNat xs).flatten))
theorem len_rep {α : Type} (xs : List α) (k : Nat) : (List.replicate k xs).flatten.length = k * xs.length := by
  induction k with
  | zero => simp
  | succ k ih => rw [List.replicate_succ, List.flatten_cons, List.length_append, ih, Nat.succ_mul, Nat.add_comm]
theorem op_rep : OpR X (binaryOp .Mult) rRep := by
  intro pins s σ H x y v u Q I rx ry h
  obtain ⟨l, k, xs, rfl, rfl, hH, h1, h2, hz, q⟩ := h
  cases rx
  obtain ⟨t, rfl⟩ := ry
  obtain ⟨z, its, n, r, hl, e⟩ := I.lstM hH
  have hlen : its.toArray.size * k.toNat ≤ sizeLine := by rw [List.size_toArray, ← hl]; exact hz
  have hcap : ¬ its.toArray.size * k.toNat > (2 ^ 63 - 1) / 8 := by
    have : (sizeLine : Nat) ≤ (2 ^ 63 - 1) / 8 := by decide
    omega
  have hfit : ¬ (!Builtin.List.listFitsIndex k) = true := by
    rw [fitsIndex_both h1 h2]
    exact Bool.false_ne_true
  have hlong : ¬ Builtin.List.listTooLong (its.toArray.size * k.toNat) = true := by
    rw [notLongL hlen]
    exact Bool.false_ne_true
  have hnew : List.foldl (fun x1 x2 => x1 ++ x2) #[] (List.replicate (if its.toArray.isEmpty = true then 0 else k.toNat) its.toArray) = (List.replicate k.toNat its).flatten.toArray := by
    have f0 : ∀ m : Nat, List.foldl (fun x1 x2 => x1 ++ x2) #[] (List.replicate m its.toArray) = (List.replicate m its).flatten.toArray := fun m => by
      have := foldl_rep its m []
      rw [List.nil_append] at this
      exact this
    rw [f0]
    cases its with
    | nil => simp
    | cons a r' => rw [if_neg (by simp)]
  refine wpAny_binaryOp_repeat_ref (T := "list") (U := "int") (by decide) ⟨_, e, rfl⟩ (fun s' => typeIs_int s' k t) noFill_list_mul F.fills_int_mul F.slot_int_rmul repeat_list F.slot_int_index.lookup
    (call_meets F.slot_int_rmul (typeIs_int s k t) F.entry_int_rmul (F.args_int_rmul_2 _ _) (int___rmul___int_list k t l its.toArray n)
      ⟨e, rfl, ⟨_, e, rfl⟩, call_meets F.slot_list_mul ⟨_, e, rfl⟩ F.entry_list_mul (F.args_list_mul_2 _ _) (AutoListH.list___mul___list_int_3 l its.toArray n k t hfit hcap hlong) ⟨e, ?_⟩⟩)
  rw [hnew]
  exact ⟨.ref _, _, I.lnew (t' := s.toks) (r.rep k.toNat) (by rw [len_rep, Nat.mul_comm]; exact hz), rfl, q _ I.fresh⟩

end

section
variable {prog : Program} {w : World} {A : Around} {E : Value → Shared → Prop} {s : Shared}
end

section
variable {X : Cx}
end
end L2

namespace Att
open PySem PySem.W PySem.Calls PyProof.Rows

theorem ints_of_wellAll {P : Params} {h : Heap} : ∀ (ns : List Int) (vs : List Value), WellAll P h vs (ns.map WData.int) → IntsAre vs ns := by
  intro ns
  induction ns with
  | nil =>
    intro vs w
    rw [List.map_nil] at w
    cases w
    exact .nil
  | cons n ns ih =>
    intro vs w
    rw [List.map_cons] at w
    cases w with
    | cons a b =>
      cases a
      exact .cons _ _ (ih _ b)

theorem script_of {l : OpenLaw} {n : Nat} (hn : l.most = some n) {P : Params} {h : Heap} {args : List WData} {vals : List Value}
    (hpre : l.row.toRowW.claim.pre args = true) (hwl : WellAll P h vals args) :
    ∃ a vs ns, vals = [Value.ref a] ∧ args = [WData.list (ns.map WData.int)] ∧ h.get? a = some { cls := .type "list", data := .seq vs.toArray } ∧ IntsAre vs ns ∧ ns.length ≤ n := by
  have hsh : WShape.hasAll [] args [.list .int] = true := (pre_splitW hpre).1
  have hc : l.pre.holds [] { args := args } = true := (pre_splitW hpre).2
  obtain ⟨d, r, rfl, h1, h2⟩ := hasAllW_cons hsh
  obtain rfl := hasAllW_nil h2
  obtain ⟨xs, rfl, h3⟩ := hasW_list h1
  obtain ⟨ns, rfl⟩ := items_int h3
  have hlen : ns.length ≤ n := by
    unfold OpenLaw.pre at hc
    have h4 : (WTm.not (.lt (.lit (.int (n : Int))) (.len (.arg 0)))).holds [] { args := [.list (ns.map .int)] } = true := by
      have h4 := (holds_andW hc).1
      rw [hn] at h4
      exact h4
    have h5 := condW_of h4 (w_not (w_lt w_lit (w_len_list (w_arg rfl))))
    rw [List.length_map] at h5
    refine Nat.le_of_not_lt fun q => ?_
    have q' : (n : Int) < ((ns.length : Nat) : Int) := by omega
    first
      | (rw [decide_eq_true q'] at h5; exact absurd h5 (by decide))
      | (simp at h5; omega)
  cases hwl with
  | cons w1 w2 =>
    cases w2
    cases w1 with
    | list ho hall => exact ⟨_, _, ns, rfl, rfl, ho, ints_of_wellAll ns _ hall, hlen⟩

theorem post_true (l : OpenLaw) (args : List WData) : l.row.toRowW.claim.post args (.bool true) args = true :=
  postW_of (r := l.row.toRowW) (X := (true == true))
    (show WShape.has [] (.bool true) .bool = true by first | rfl | decide | simp [WShape.has, WShape.arms, WShape.armsAll])
    (show (WTm.eq .res (.lit (.bool true))).value [] { args := args, res := some (.bool true), after := args } = some (.bool (true == true)) from w_eq_bool (w_res rfl) w_lit) rfl


theorem attach_call {l : OpenLaw} {n : Nat} {q : Program} {loose : List Str} {XP : (Str → Option Value) → Heap → Prop} {YP : World → Heap → Prop} {d : DefRec}
    (hn : l.most = some n) (hdf : d.params.defaults = [])
    (call : ∀ (w : World) (s₀ s₁ : Shared) (mg mb : Str → Option Value) (fa : Addr) (o : Obj) (pm cd doc : Value) (a : Addr) (vs : List Value) (ns : List Int),
      Ground q loose [] XP w s₀ mg mb s₁.heap → YP w s₁.heap →
      s₁.heap.get? fa = some o → o.data = .func (docDef d.name d.params d.body d.scope pm cd doc) → s₁.heap.CodeRec cd d.name → mg d.name = some (.ref fa) →
      s₁.heap.get? a = some { cls := .type "list", data := .seq vs.toArray } → IntsAre vs ns → ns.length ≤ n → s₁.gens = #[] →
      codeAny (model l.prog w) callerA (.call (.ref fa) ⟨[.ref a], []⟩) (fun r s' => r = .ok (.ret (.bool true)) ∧ OldK s₁.heap s'.heap ∧ s'.os = s₁.os ∧ AllBare s'.gens) s₁) :
    WalkO q loose XP YP l.row.toRowW d [] (fun f vs => PySem.call f vs) := by
  intro w s₀ s₁ mg mb G Y fa o pm cd doc dV kV ho hd hcd hD hmg hg args vals as hpre hlay hrd hwl hlo
  obtain rfl : dV = .none := Dflts.none hD hdf
  obtain rfl : kV = .none := Dflts.noKw hD
  obtain ⟨a, vs, ns, rfl, rfl, hobj, hints, hlen⟩ := script_of hn hpre hwl
  refine enter_call (codeAny_mono (call w s₀ s₁ mg mb fa o pm cd doc a vs ns G Y ho (fd_plain hd) hcd hmg hobj hints hlen hg) fun r s' hq => ?_)
  obtain ⟨rfl, h2, h3, h4⟩ := hq
  exact ⟨.inl ⟨.bool true, .bool true, [], rfl, fun _ => rfl, .bool true, post_true l _, fun _ => ⟨List.Pairwise.nil, fun _ hm => (nomatch hm)⟩⟩, h2, h3, h4⟩


section
variable {prog : Program} {w : World} {A : Around} {E : Value → Shared → Prop} {s : Shared} {K : Frag}






end
end Att

namespace L2
open PySem PySem.Spec PyProof.Rows

theorem vals_ints : ∀ {vs : List Value} {ns : List Int}, IntsAre vs ns → Vals (ns.map V.int) vs
  | _, _, .nil => .nil
  | _, _, .cons n t h => .cons ⟨t, rfl⟩ (vals_ints h)

def Only (H : Hp) : Prop := ∀ b, H b = none ∨ ∃ o xs, H b = some (.frz o (.lst xs))

theorem law_call {P : Program} {w : World} {K : PySem.W.Frag} {mg mb : Str → Option Value} {CX : CXT} {k : Nat} {fa a : Addr} {fd : FuncData} {x : Str} {sp : Sp} {s₁ : Shared} {vs : List Value} {ns : List Int}
    (KX : K.In s₁.heap) (hns : s₁.heap.Ns mainGlobals mg) (hb : s₁.heap.Ns builtinsNs mb) (hbb : ∀ x : Str, x ≠ "__name__" → mb x = bootBuiltins x) (hlim : s₁.heap.NoLimit) (hg : s₁.gens = #[])
    (ha : s₁.heap.get? a = some { cls := .type "list", data := .seq vs.toArray }) (hi : IntsAre vs ns) (hl : ns.length ≤ sizeLine) (hr : Room k callerA)
    (F : ∀ base : Heap, K.In base → base.Ns mainGlobals mg → FnOk P w K mg base CX k fa fd [x] sp) (hbind : ∀ (s : Shared) (u : Value), BindsTo s fd ⟨[u], []⟩ [(x, u)])
    (hsp : ∀ H : Hp, Only H → SqL K H a (ns.map V.int) → sp [.ref a] H (fun v _ => v = .bl true) fun _ _ _ => False)
    (hCX : ∀ H e s', CX [] H s₁ (fun _ _ _ => False) e s' → False) :
    codeAny (model P w) callerA (.call (.ref fa) ⟨[.ref a], []⟩) (fun r s' => r = .ok (.ret (.bool true)) ∧ OldK s₁.heap s'.heap ∧ s'.os = s₁.os ∧ AllBare s'.gens) s₁ := by
  have rv := vals_ints hi
  have lenV := hi.length
  -- from an abstract heap in which nothing but the script may be tracked
  have core : ∀ H : Hp, Only H → SqL K H a (ns.map V.int) → HOk P w H s₁.heap → (∀ b, H b ≠ none → b = a) → (H a ≠ none → K.lookup a = none) →
      codeAny (model P w) callerA (.call (.ref fa) ⟨[.ref a], []⟩) (fun r s' => r = .ok (.ret (.bool true)) ∧ OldK s₁.heap s'.heap ∧ s'.os = s₁.os ∧ AllBare s'.gens) s₁ := by
    intro H hO hS hok hA hK
    have base_of : ∀ {b : Addr} {o : Obj}, s₁.heap.get? b = some o → H b = none → (hidT s₁.heap H).get? b = some o := fun e n => hidT_get e n
    have noA : ∀ {b : Addr} {o : Obj} {es : Array DictEntry} {ep : Nat}, s₁.heap.get? b = some o → o.data = .dict es ep → H b = none := fun {b o es ep} e d => by
      cases q : H b with
      | none => rfl
      | some u =>
        have e' : b = a := hA b (by rw [q]; simp)
        subst e'
        rw [ha] at e; cases e
        have d' : Data.seq vs.toArray _ = Data.dict es ep := d
        cases d'
    have nsK : ∀ {b : Addr} {m : Str → Option Value}, s₁.heap.Ns b m → (hidT s₁.heap H).Ns b m := fun {b m} ⟨o, es, ep, e, d, r⟩ => ⟨o, es, ep, base_of e (noA e d), d, r⟩
    have hKb : K.In (hidT s₁.heap H) := fun b o e => base_of (KX b o e) (by
      cases q : H b with
      | none => rfl
      | some u =>
        have e' : b = a := hA b (by rw [q]; simp)
        subst e'
        rw [hK (by rw [q]; simp)] at e; cases e)
    have hM : Mod K mg (hidT s₁.heap H) := ⟨hKb, nsK hns, ⟨mb, nsK hb, hbb⟩, let ⟨mc, h1, h2⟩ := hlim; ⟨mc, nsK h1, h2⟩⟩
    have e0 : Env0 P w K mg (hidT s₁.heap H) callerA [] s₁ H := ⟨rfl, hM, fun b o e => of_hidT e, Nat.le_of_eq (hidT_size _ _), trivial, fun b hb => absurd (show b ∈ ([] : List Addr) from hb) (by simp), hok, .of_eq hg⟩
    refine codeAny_mono ((F _ hKb (nsK hns)).run callerA [] s₁ H ⟨[.ref a], []⟩ [.ref a] [.ref a] _ _ hr e0 (hbind s₁ (.ref a)) (.cons rfl .nil) (hsp H hO hS)) fun r s' h => ?_
    cases r with
    | error e => exact (hCX H e s' h).elim
    | ok fl =>
      cases fl with
      | next => exact False.elim h
      | brk => exact False.elim h
      | cont => exact False.elim h
      | ret u =>
        obtain ⟨v, H', os, bare, un, hok', r', q⟩ := h
        have q' : v = .bl true := q
        subst q'
        obtain rfl : u = Value.bool true := r'
        refine ⟨rfl, OldK.of_keep fun b o e => ?_, os, bare⟩
        cases q : H b with
        | none => exact un.keep b o e q (by intro z; exact absurd (show b ∈ ([] : List Addr) from z) (by simp)) (by simp)
        | some u =>
          rcases hO b with z | ⟨ob, xs, z⟩
          · rw [q] at z; cases z
          · have z2 := un.frzs b ob _ z
            obtain ⟨e1, _⟩ := hok b _ z
            obtain ⟨e2, _⟩ := hok' b _ z2
            rw [e] at e1; cases e1
            exact e2
  cases hk : K.lookup a with
  | some o =>
    -- the script is one of the module's own objects
    have e := KX a o hk
    rw [ha] at e
    cases e
    refine core (fun _ => none) (fun _ => .inl rfl) (.inr ⟨_, vs.toArray, _, hk, rfl, rfl, rfl, by rw [List.size_toArray, lenV]; exact hl, by simpa using rv⟩) (fun b u z => by have z' : (none : Option HO) = some u := z; cases z') (fun b z => absurd rfl z) fun z => absurd rfl z
  | none =>
    refine core (fun b => if b = a then some (.frz { cls := .type "list", data := .seq vs.toArray } (.lst (ns.map V.int))) else none) (fun b => ?_) (.inl (.inr ⟨{ cls := .type "list", data := .seq vs.toArray }, if_pos rfl⟩)) (fun b u z => ?_) (fun b z => ?_) fun _ => hk
    · by_cases hb : b = a
      · exact .inr ⟨_, _, if_pos hb⟩
      · exact .inl (if_neg hb)
    · by_cases hb : b = a
      · have z' := (if_pos hb).symm.trans z
        cases z'
        subst hb
        exact ⟨ha, by rw [List.length_map]; exact hl, vs, _, rv, ha⟩
      · have z' := (if_neg hb).symm.trans z
        cases z'
    · by_cases hb : b = a
      · exact hb
      · exact absurd (if_neg hb) z
end L2

namespace L2
open PySem PySem.Spec PyProof.Rows


theorem walk_of {l : PySem.W.OpenLaw} {n k : Nat} {q : Program} {loose : List Str} {XP : (Str → Option Value) → Heap → Prop} {YP : World → Heap → Prop} {d : DefRec} {K : Params → PySem.W.Frag} {CX : World → CXT} {sp : World → Sp} {x : Str}
    (hn : l.most = some n) (hn2 : n ≤ sizeLine) (hdf : d.params.defaults = []) (hr : Room k callerA)
    (hY : ∀ (w : World) (h : Heap), YP w h → (K w.params).In h)
    (F : ∀ (w : World) (mg : Str → Option Value) (fa : Addr) (h : Heap), (K w.params).In h → h.Ns mainGlobals mg → mg d.name = some (.ref fa) →
      ∃ fd : FuncData, (∀ (s : Shared) (u : Value), BindsTo s fd ⟨[u], []⟩ [(x, u)]) ∧
        ∀ base : Heap, (K w.params).In base → base.Ns mainGlobals mg → FnOk l.prog w (K w.params) mg base (CX w) k fa fd [x] (sp w))
    (hsp : ∀ (w : World) (H : Hp) (a : Addr) (ns : List Int), ns.length ≤ n → Only H → SqL (K w.params) H a (ns.map V.int) → sp w [.ref a] H (fun v _ => v = .bl true) fun _ _ _ => False)
    (hCX : ∀ (w : World) (H : Hp) (s : Shared) (e : Value) (s' : Shared), CX w [] H s (fun _ _ _ => False) e s' → False) :
    PySem.W.WalkO q loose XP YP l.row.toRowW d [] (fun f vs => PySem.call f vs) := by
  refine Att.attach_call hn hdf fun w s₀ s₁ mg mb fa o pm cd doc a vs ns G Y ho hd hcd hmg hobj hints hlen hg => ?_
  have KX := hY w _ Y
  obtain ⟨fd, hb, hF⟩ := F w mg fa _ KX G.T.g hmg
  exact law_call KX G.T.g G.T.b G.T.builtins G.T.nolimit hg hobj hints (Nat.le_trans hlen hn2) hr hF hb (fun H hO hS => hsp w H a ns hlen hO hS) fun H e s' => hCX w H s₁ e s'
end L2


namespace L2
open PySem PySem.Spec PyProof.Rows

def defArgs (s : Stmt) : Arguments := match s with
  | .FunctionDef _ a _ _ _ _ _ _ _ _ => a
  | _ => { posonlyargs := [], args := [], vararg := none, kwonlyargs := [], kw_defaults := [], kwarg := none, defaults := [] }
def defBody (s : Stmt) : List Stmt := match s with
  | .FunctionDef _ _ b _ _ _ _ _ _ _ => b
  | _ => []
def defScope (s : Stmt) : Scope := match s with
  | .FunctionDef _ _ _ _ _ _ sc _ _ _ => sc
  | _ => { kind := .function, names := [], isGenerator := false, isCoroutine := false }

abbrev CX0 : CXT := fun _ _ _ _ _ _ => False
abbrev E0 : XK := fun _ _ _ => False
theorem pass0 {X : Cx} : Passes CX0 X E0 := fun _ _ _ _ _ _ _ h => h.elim

structure Fun (K : PySem.W.Frag) (x qual : Str) (st : Stmt) (f : Addr) (fd : FuncData) : Prop where
  ex : ∃ (oc : Value) (od : Option Addr) (kV doc pm : Value) (an : Option Addr) (cdv ct : Value) (osl : Array (Option Value)),
    fd = PySem.W.fnOf x qual (defArgs st) (defBody st) (defScope st) .none kV doc pm an cdv ct ∧ K.lookup f = some ⟨oc, od, .func fd, osl⟩ ∧ PySem.W.codeIn K cdv qual = true
  kp : PySem.W.keepIn K (.ref f) = true
section
variable {P : Program} {w : World} {K : PySem.W.Frag} {mg : Str → Option Value} {base : Heap}
theorem Fun.ok {x qual : Str} {st : Stmt} {f : Addr} {fd : FuncData} {N ps : List Str} {k : Nat} {sp : Sp} (F : Fun K x qual st f fd) (S : FnScope N ps (defScope st)) (len : ∀ vs H Q E, sp vs H Q E → vs.length = ps.length)
    (hbody : ∀ (cdv : Value) (A : Around) (outer : List Env) (s : Shared) (H : Hp) (vs : List V) (Q : VK) (E : XK), Room k (A.deeper (envOfC qual (defScope st) s.heap.objs.size f cdv)) → sp vs H Q E →
      ∃ t, PSs (cxOf CX0 P w K mg base N qual (defScope st) f cdv A outer s H E).nox (defBody st) t ∧ t { nx := fun _ H' => Q .non H', rt := Q } (start N vs) H) : FnOk P w K mg base CX0 (k + 1) f fd ps sp := by
  obtain ⟨oc, od, kV, doc, pm, an, cdv, ct, osl, rfl, lk, hcd⟩ := F.ex
  refine fn_of lk hcd S len fun A outer s H vs Q E hr hsp => ?_
  obtain ⟨t, h, q⟩ := hbody cdv A outer s H vs Q E hr hsp
  exact ⟨t, h.nox, q⟩
theorem Fun.binds {x qual : Str} {st : Stmt} {f : Addr} {fd : FuncData} {ps : List Str} (F : Fun K x qual st f fd)
    (h : ∀ (kV doc pm : Value) (an : Option Addr) (cdv ct : Value) (us : List Value), us.length = ps.length → bindArgs (PySem.W.fnOf x qual (defArgs st) (defBody st) (defScope st) .none kV doc pm an cdv ct) ⟨us, []⟩ = pure (ps.zip us)) : Binds K fd ps [] := by
  obtain ⟨oc, od, kV, doc, pm, an, cdv, ct, osl, rfl, lk, hcd⟩ := F.ex
  exact .all (h kV doc pm an cdv ct)
theorem fun_mk {x qual : Str} {st : Stmt} {f : Addr} {oc : Value} {od an : Option Addr} {osl : Array (Option Value)} {kV doc pm cdv ct : Value} (l : K.lookup f = some ⟨oc, od, .func (PySem.W.fnOf x qual (defArgs st) (defBody st) (defScope st) .none kV doc pm an cdv ct), osl⟩)
    (c : PySem.W.codeIn K cdv qual = true) (k : PySem.W.keepIn K (.ref f) = true) : Fun K x qual st f (PySem.W.fnOf x qual (defArgs st) (defBody st) (defScope st) .none kV doc pm an cdv ct) := ⟨⟨oc, od, kV, doc, pm, an, cdv, ct, osl, rfl, l, c⟩, k⟩
end
theorem small1000 {n : Nat} (h : n ≤ 1000) : n < sizeLine := Nat.lt_of_le_of_lt h (by decide)

section
variable {X : Cx}
theorem pv (i : Nat) {x : Str} {pos : Pos} (hN : X.N[i]? = some x := by rfl) (hv : Vis X.env.scope x := by first | exact Or.inl rfl | exact Or.inr (Or.inl rfl) | exact Or.inr (Or.inr rfl)) (hd : (x == ("__debug__" : Str)) = false := by decide)
    (hcd : (x == ("__classdict__" : Str)) = false := by decide) : PE X (.Name x pos) (tVar i) := pe_var hN hv hd hcd
end

theorem iteF {A B : Prop} (h : B) : if false = true then A else B := by
  rw [if_neg Bool.false_ne_true]
  exact h
theorem iteT {A B : Prop} (h : A) : if true = true then A else B := by
  rw [if_pos rfl]
  exact h
theorem ite2 {c A B : Prop} [Decidable c] (h1 : c → A) (h2 : ¬ c → B) : if c then A else B := by
  by_cases h : c
  · rw [if_pos h]
    exact h1 h
  · rw [if_neg h]
    exact h2 h

def Same (H H' : Hp) : Prop := ∀ b o, H b = some o → H' b = some o
theorem Same.refl (H : Hp) : Same H H := fun _ _ h => h
theorem Same.trans {H H1 H2 : Hp} (a : Same H H1) (b : Same H1 H2) : Same H H2 := fun c o h => b c o (a c o h)
theorem Same.free {H H' : Hp} (e : Same H H') {l : Addr} (h : H' l = Option.none) : H l = Option.none := by
  cases q : H l with
  | none => rfl
  | some o =>
    rw [e l o q] at h
    cases h
theorem Same.seq {K : PySem.W.Frag} {H H' : Hp} {a : Addr} {xs : List V} (e : Same H H') (h : SqL K H a xs) : SqL K H' a xs := by
  rcases h with (h | ⟨o, h⟩) | h
  · exact .inl (.inl (e _ _ h))
  · exact .inl (.inr ⟨o, e _ _ h⟩)
  · exact .inr h

end L2

namespace L3
open PySem PySem.Spec PyProof.Rows L2

theorem b_abs : bootBuiltins "abs" = some (.builtin "abs") := by decide +kernel
theorem b_len : bootBuiltins "len" = some (.builtin "len") := by decide +kernel
theorem b_max : bootBuiltins "max" = some (.builtin "max") := by decide +kernel
theorem b_min : bootBuiltins "min" = some (.builtin "min") := by decide +kernel
theorem b_divmod : bootBuiltins "divmod" = some (.builtin "divmod") := by decide +kernel
theorem b_isinstance : bootBuiltins "isinstance" = some (.builtin "isinstance") := by decide +kernel
theorem b_all : bootBuiltins "all" = some (.builtin "all") := by decide +kernel
theorem b_sum : bootBuiltins "sum" = some (.builtin "sum") := by decide +kernel
theorem b_sorted : bootBuiltins "sorted" = some (.builtin "sorted") := by decide +kernel
theorem b_int : bootBuiltins "int" = some (.type "int") := by decide +kernel
theorem b_bool : bootBuiltins "bool" = some (.type "bool") := by decide +kernel
theorem b_tuple : bootBuiltins "tuple" = some (.type "tuple") := by decide +kernel
theorem b_list : bootBuiltins "list" = some (.type "list") := by decide +kernel

def TyV (K : PySem.W.Frag) (H : Hp) (x : V) (T : String) : Prop := match x with
  | .non => T = "NoneType"
  | .bl _ => T = "bool"
  | .int _ => T = "int"
  | .str _ => T = "str"
  | .ref a => (T = "tuple" ∧ ∃ xs, SqT K H a xs) ∨ (T = "list" ∧ ∃ xs, SqL K H a xs) ∨ (T = "dict" ∧ ∃ kvs, H a = some (.dK kvs))
  | _ => False
section
variable {X : Cx} {a b c : Expr} {ta tb tc : TE} {pos : Pos}
def rIsi (K : PySem.W.Frag) : List V → Hp → VK → Prop := fun xs H Q => ∃ x T t k, xs = [x, .ty T] ∧ TyV K H x t ∧ PySem.W.kitOne K (.type t) (.type T) = some k ∧ Q (.bl k) H
theorem call_isi : CallR X (.builtin "isinstance") (rIsi X.K) := by
  intro pins s σ H xs us Q I r h
  obtain ⟨x, T, t, k, rfl, ty, e, q⟩ := h
  obtain ⟨u, w', rfl, rx, rt⟩ := vals2 r
  cases (show w' = Value.type T from rt)
  have fin : ∀ tk, EP X pins σ Q (.bool k) { s with toks := tk } := fun tk => ⟨.bl k, H, I.tok _, rfl, q⟩
  cases x with
  | non => cases (show t = "NoneType" from ty); exact isinst_ok I rx .non e fin
  | bl y => cases (show t = "bool" from ty); exact isinst_ok I rx (.bl y) e fin
  | int i => cases (show t = "int" from ty); exact isinst_ok I rx (.int i) e fin
  | str y => cases (show t = "str" from ty); exact isinst_ok I rx (.str y) e fin
  | byt y => exact ty.elim
  | flt y => exact ty.elim
  | ty y => exact ty.elim
  | ref a =>
    cases (show u = Value.ref a from rx)
    rcases ty with ⟨rfl, xs, hq⟩ | ⟨rfl, xs, hq⟩ | ⟨rfl, kvs, hq⟩
    · obtain ⟨its, _, ⟨o, h1, h2, _⟩, _⟩ := I.tuple hq
      exact PySem.W.kia_one PySem.W.kitx_tuple I.kIn ⟨o, h1, h2⟩ e (fun z => nomatch z) fin
    · obtain ⟨its, _, pl, _⟩ := I.list hq
      obtain ⟨o, h1, h2, _⟩ := pl.isList
      exact PySem.W.kia_one PySem.W.kitx_list I.kIn ⟨o, h1, h2⟩ e (fun z => nomatch z) fin
    · exact isinst_ok (x := V.ref a) I (show RelV (.ref a) (.ref a) from rfl) (.dK hq) e fin

theorem pe_tyn {x : Str} {T : String} {pos : Pos} (hg : Gl X x) (hm : X.mg x = none) (hv : bootBuiltins x = some (.type T)) (hn : x ≠ "__name__" := by decide) (hd : (x == ("__debug__" : Str)) = false := by decide) : PE X (.Name x pos) (tC (.ty T)) :=
  pe_bltn hg hm hv (show RelV (.ty T) (Value.type T) from rfl) hn hd
theorem op_mulG : OpR X (binaryOp .Mult) (rI IntMulOk fun i j => .int (i * j)) := opI fun _ _ _ _ _ _ _ hc q => mul_int q hc
def CDivL (i j : Int) : Prop := 0 < j ∧ j < 2 ^ 200
theorem CDivL.py {i j : Int} (h : CDivL i j) : Builtin.divisionGoesByPylong i j = false := by
  refine PyProof.noPylong_of_log2 ?_
  obtain ⟨h1, h2⟩ := h
  have h0 : j.natAbs ≠ 0 := by omega
  have h3 : j.natAbs < 2 ^ 200 := by
    have : (j.natAbs : Int) = j := by omega
    have h4 : ((j.natAbs : Nat) : Int) < ((2 ^ 200 : Nat) : Int) := by rw [this]; exact h2
    exact Int.ofNat_lt.mp h4
  exact Nat.lt_of_lt_of_le ((Nat.log2_lt h0).mpr h3) (by decide)
theorem op_fdivL : OpR X (binaryOp .FloorDiv) (rI CDivL fun i j => .int (i / j)) := opI fun i j _ _ _ _ _ hc q => by
  have := hc.1
  refine floordiv_int (by omega) ?_ (.inl hc.py)
  rw [Int.fdiv_eq_ediv_of_nonneg i (by omega)]
  exact q
theorem call_divmodL : CallR X (.builtin "divmod") (fun xs H Q => ∃ i j, xs = [.int i, .int j] ∧ CDivL i j ∧ ∀ p, H p = none → Q (.ref p) (upd H p (.tup [.int (i / j), .int (i % j)]))) := by
  intro pins s σ H xs us Q I r h
  obtain ⟨i, j, rfl, hc, q⟩ := h
  have h1 := hc.1
  obtain ⟨u, w', rfl, ⟨t, rfl⟩, ⟨t', rfl⟩⟩ := vals2 r
  refine divmod_int (by omega) ?_ (.inl hc.py)
  rw [Int.fdiv_eq_ediv_of_nonneg i (by omega), Int.fmod_eq_emod_of_nonneg i (by omega)]
  have hn : H s.heap.objs.size = none := I.hok.fresh (Nat.le_refl _)
  refine ⟨.ref s.heap.objs.size, _, ?_, rfl, q _ hn⟩
  refine I.laid (fun b o e => Heap.get?_push_of_some _ e) (Nat.le_refl _) ⟨by simp only [List.length_cons, List.length_nil]; rw [sizeLine_eq]; decide, [.int (i / j) s.toks, .int (i % j) (s.toks + 1)], .cons ⟨_, rfl⟩ (.cons ⟨_, rfl⟩ .nil), ?_⟩
  exact ⟨_, Heap.get?_push_size s.heap rfl, rfl, 0, rfl⟩
end

def Callee (P : Program) (w : World) (K : PySem.W.Frag) (mg : Str → Option Value) (base : Heap) (k : Nat) (x : Str) (ps : List Str) (sp : Sp) : Prop :=
  ∃ (f : Addr) (fd : FuncData), FnOk P w K mg base CX0 k f fd ps sp ∧ Binds K fd ps [] ∧ PySem.W.keepIn K (.ref f) = true ∧ mg x = some (.ref f)
theorem Callee.mono {P : Program} {w : World} {K : PySem.W.Frag} {mg : Str → Option Value} {base : Heap} {j k : Nat} {x : Str} {ps : List Str} {sp : Sp} (C : Callee P w K mg base j x ps sp) (h : j ≤ k) : Callee P w K mg base k x ps sp := by
  obtain ⟨f, fd, F, b, kp, m⟩ := C
  exact ⟨f, fd, F.mono h, b, kp, m⟩
section
variable {X : Cx} {k : Nat} {ps : List Str} {sp : Sp} {x : Str} {p pos : Pos} {e : Expr} {es : List Expr} {t : TA}
theorem pe_callC (C : Callee X.prog X.w X.K X.mg X.base k x ps sp) (hr : Room k X.A) (hg : Gl X x)
    (ha : PA X (e :: es) t) (hdb : (x == ("__debug__" : Str)) = false := by decide) (he : starEach (e :: es) X.env = (false, eval e X.env) :: starEach es X.env := by rfl) (hpl : (backTo pos (starEach es X.env)).any (·.1) = false := by rfl) :
    PE X (.Call (.Name x p) (e :: es) [] pos) (tCall sp [] E0 t) := by
  obtain ⟨f, fd, F, b, kp, m⟩ := C
  exact pe_call F hr hg m kp b .nil pass0 ha hdb he hpl
end

structure Grow (m : List Addr) (H H' : Hp) : Prop where
  keep : ∀ b o, b ∉ m → H b = some o → H' b = some o
  tup : ∀ b xs, H b = some (.tup xs) → H' b = some (.tup xs)
  frz : ∀ b o u, H b = some (.frz o u) → H' b = some (.frz o u)
theorem Grow.refl (m : List Addr) (H : Hp) : Grow m H H := ⟨fun _ _ _ h => h, fun _ _ h => h, fun _ _ _ h => h⟩
theorem Grow.trans {m : List Addr} {H H1 H2 : Hp} (a : Grow m H H1) (b : Grow m H1 H2) : Grow m H H2 :=
  ⟨fun c o n h => b.keep c o n (a.keep c o n h), fun c xs h => b.tup c xs (a.tup c xs h), fun c o u h => b.frz c o u (a.frz c o u h)⟩
theorem Grow.new {m : List Addr} {H : Hp} {p : Addr} (h : H p = none) (o : HO) : Grow m H (upd H p o) :=
  ⟨fun b u _ q => by rw [upd_ne (ne_of_none q h)]; exact q, fun b xs q => by rw [upd_ne (ne_of_none q h)]; exact q, fun b u v q => by rw [upd_ne (ne_of_none q h)]; exact q⟩
theorem Grow.set {m : List Addr} {H : Hp} {p : Addr} {xs : List V} (h : H p = some (.lst xs)) (hm : p ∈ m) (ys : List V) : Grow m H (upd H p (.lst ys)) :=
  ⟨fun b u hb q => by rw [upd_ne (show b ≠ p from fun z => hb (by rw [z]; exact hm))]; exact q, fun b zs q => by rw [upd_ne (fun z => by subst z; rw [h] at q; cases q)]; exact q, fun b u v q => by rw [upd_ne (fun z => by subst z; rw [h] at q; cases q)]; exact q⟩
theorem Grow.mono {m m' : List Addr} {H H' : Hp} (a : Grow m H H') (h : ∀ b ∈ m, b ∈ m') : Grow m' H H' := ⟨fun b o n q => a.keep b o (fun z => n (h b z)) q, a.tup, a.frz⟩
theorem Grow.same {H H' : Hp} (a : Grow [] H H') : Same H H' := fun b o h => a.keep b o (by simp) h
theorem Grow.sqT {m : List Addr} {H H' : Hp} (g : Grow m H H') {K : PySem.W.Frag} {a : Addr} {xs : List V} (h : SqT K H a xs) : SqT K H' a xs := by
  rcases h with (h | ⟨o, h⟩) | h
  · exact .inl (.inl (g.tup _ _ h))
  · exact .inl (.inr ⟨o, g.frz _ _ _ h⟩)
  · exact .inr h
theorem Grow.free {H H' : Hp} {m : List Addr} (g : Grow m H H') {l : Addr} (hm : l ∉ m) (h : H' l = none) : H l = none := by
  cases q : H l with
  | none => rfl
  | some o => rw [g.keep l o hm q] at h; cases h
def Scr (K : PySem.W.Frag) (H : Hp) (a : Addr) (ns : List Int) : Prop :=
  (∃ o, H a = some (.frz o (.lst (ns.map V.int)))) ∨
    ∃ (o : Obj) (its : Array Value) (n : Nat), K.lookup a = some o ∧ o.cls = .type "list" ∧ o.dict = none ∧ o.data = .seq its n ∧ its.size ≤ sizeLine ∧ Vals (ns.map V.int) its.toList
theorem Scr.sq {K : PySem.W.Frag} {H : Hp} {a : Addr} {ns : List Int} (h : Scr K H a ns) : SqL K H a (ns.map V.int) := by
  rcases h with ⟨o, h⟩ | h
  · exact .inl (.inr ⟨o, h⟩)
  · exact .inr h
theorem Scr.of {K : PySem.W.Frag} {H : Hp} {a : Addr} {ns : List Int} (hO : Only H) (h : SqL K H a (ns.map V.int)) : Scr K H a ns := by
  rcases h with (h | ⟨o, h⟩) | h
  · rcases hO a with z | ⟨o, xs, z⟩
    · rw [h] at z; cases z
    · rw [h] at z; cases z
  · exact .inl ⟨o, h⟩
  · exact .inr h
theorem Grow.scr {m : List Addr} {H H' : Hp} (g : Grow m H H') {K : PySem.W.Frag} {a : Addr} {ns : List Int} (h : Scr K H a ns) : Scr K H' a ns := by
  rcases h with ⟨o, h⟩ | h
  · exact .inl ⟨o, g.frz _ _ _ h⟩
  · exact .inr h
end L3

namespace L3
open PySem PySem.Spec PyProof.Rows L2

structure Blt (mg : Str → Option Value) : Prop where
  abs : mg "abs" = none
  len : mg "len" = none
  max : mg "max" = none
  min : mg "min" = none
  divmod : mg "divmod" = none
  repr : mg "repr" = none
  isinstance : mg "isinstance" = none
  all : mg "all" = none
  range : mg "range" = none
  int : mg "int" = none
  bool : mg "bool" = none
  str : mg "str" = none
  tuple : mg "tuple" = none
  list : mg "list" = none
  dict : mg "dict" = none

def sp1 (b : V → Hp → VK → Prop) : Sp := fun vs H Q _ => ∃ x, vs = [x] ∧ b x H Q
def sp2 (b : V → V → Hp → VK → Prop) : Sp := fun vs H Q _ => ∃ x y, vs = [x, y] ∧ b x y H Q
def sp3 (b : V → V → V → Hp → VK → Prop) : Sp := fun vs H Q _ => ∃ x y z, vs = [x, y, z] ∧ b x y z H Q
theorem sp1_len {b : V → Hp → VK → Prop} {p : Str} : ∀ vs H Q E, sp1 b vs H Q E → vs.length = [p].length := fun vs H Q E h => by
  obtain ⟨x, rfl, _⟩ := h; rfl
theorem sp2_len {b : V → V → Hp → VK → Prop} {p q : Str} : ∀ vs H Q E, sp2 b vs H Q E → vs.length = [p, q].length := fun vs H Q E h => by
  obtain ⟨x, y, rfl, _⟩ := h; rfl
theorem sp3_len {b : V → V → V → Hp → VK → Prop} {p q r : Str} : ∀ vs H Q E, sp3 b vs H Q E → vs.length = [p, q, r].length := fun vs H Q E h => by
  obtain ⟨x, y, z, rfl, _⟩ := h; rfl

def wholeV : V → Bool
  | .int _ => true
  | _ => false
def endV : V → Bool
  | .non => true
  | .int _ => true
  | _ => false
def Kn (K : PySem.W.Frag) (H : Hp) (x : V) : Prop := ∃ T, TyV K H x T
structure Deed where
  add : Int
  lo : Option Int
  hi : Option Int
  deriving DecidableEq
def ov : Option Int → V
  | none => .non
  | some i => .int i
def Deed.vs (d : Deed) : List V := [.int d.add, ov d.lo, ov d.hi]
def Deed.Ok (d : Deed) : Prop := ∀ l h, d.lo = some l → d.hi = some h → l < h ∨ (l = h ∧ d.add = 0)
def clampLo (lo : Option Int) (r : Int) : Int := match lo with
  | none => r
  | some l => if l > r then l else r
def clampHi (hi : Option Int) (r : Int) : Int := match hi with
  | none => r
  | some h => if h < r then h else r
def Deed.mk' (d : Deed) (v : Int) : Int := clampHi d.hi (clampLo d.lo (v + d.add))
def ordV : V → V → V → Bool
  | .int a, .int l, .int h => decide (l < h) || (decide (l = h) && decide (a = 0))
  | _, _, _ => true
def tupDeed : List V → Bool
  | [x, y, z] => wholeV x && (endV y && (endV z && ordV x y z))
  | _ => false
theorem tupDeed_ok {d : Deed} (h : d.Ok) : tupDeed d.vs = true := by
  obtain ⟨a, lo, hi⟩ := d
  cases lo with
  | none => cases hi <;> rfl
  | some l =>
    cases hi with
    | none => rfl
    | some u =>
      have := h l u rfl rfl
      show (decide (l < u) || (decide (l = u) && decide (a = 0))) = true
      rcases this with q | ⟨q, q2⟩
      · simp [q]
      · have q2' : a = 0 := q2
        simp [q, q2']
theorem whole_int {x : V} (h : wholeV x = true) : ∃ i, x = .int i := by
  cases x <;> first | exact ⟨_, rfl⟩ | cases h
theorem end_ov {x : V} (h : endV x = true) : ∃ o, x = ov o := by
  cases x <;> first | exact ⟨none, rfl⟩ | exact ⟨some _, rfl⟩ | cases h
theorem len3 {xs : List V} (h : xs.length = 3) : ∃ x y z, xs = [x, y, z] := by
  match xs, h with
  | [x, y, z], _ => exact ⟨x, y, z, rfl⟩
theorem tupDeed_len {xs : List V} (h : xs.length ≠ 3) : tupDeed xs = false := by
  match xs, h with
  | [], _ => rfl
  | [_], _ => rfl
  | [_, _], _ => rfl
  | [_, _, _], h => exact absurd rfl h
  | _ :: _ :: _ :: _ :: _, _ => rfl
def DeedAt (K : PySem.W.Frag) (H : Hp) (x : V) (d : Deed) : Prop := ∃ a, x = .ref a ∧ SqT K H a d.vs
theorem Grow.deed {m : List Addr} {H H' : Hp} (g : Grow m H H') {K : PySem.W.Frag} {x : V} {d : Deed} (h : DeedAt K H x d) : DeedAt K H' x d := by
  obtain ⟨a, e, h⟩ := h
  exact ⟨a, e, g.sqT h⟩
theorem kn_int {K : PySem.W.Frag} {H : Hp} {i : Int} : Kn K H (.int i) := ⟨"int", rfl⟩
theorem kn_non {K : PySem.W.Frag} {H : Hp} : Kn K H .non := ⟨"NoneType", rfl⟩
theorem kn_ov {K : PySem.W.Frag} {H : Hp} (o : Option Int) : Kn K H (ov o) := by cases o; exact kn_non; exact kn_int

def sp_is_whole (K : PySem.W.Frag) : Sp := sp1 fun x H Q => Kn K H x ∧ Q (.bl (wholeV x)) H
def sp_is_end (K : PySem.W.Frag) : Sp := sp1 fun x H Q => Kn K H x ∧ Q (.bl (endV x)) H
def sp_is_deed (K : PySem.W.Frag) : Sp := sp1 fun x H Q => (∃ T, T ≠ "tuple" ∧ TyV K H x T ∧ Q (.bl false) H) ∨ ∃ a xs, x = .ref a ∧ SqT K H a xs ∧ (∀ y ∈ xs, Kn K H y) ∧ Q (.bl (tupDeed xs)) H
def sp_made (K : PySem.W.Frag) : Sp := sp2 fun x y H Q => ∃ d v, DeedAt K H x d ∧ y = .int v ∧ Q (.int (d.mk' v)) H

def Pot (H : Hp) (a : Addr) : Prop := ∃ p0 p1 : Int, H a = some (.lst [.int p0, .int p1]) ∧ 0 ≤ p0
def Sm (n : Int) : Prop := -(10 ^ 30) < n ∧ n < 10 ^ 30
def Deed.Sm (d : Deed) : Prop := L3.Sm d.add ∧ (∀ l, d.lo = some l → L3.Sm l) ∧ ∀ h, d.hi = some h → L3.Sm h
def sp_pot (K : PySem.W.Frag) : Sp := sp2 fun x y H Q => ∃ a ns k, x = .ref a ∧ y = .int k ∧ Scr K H a ns ∧ 0 ≤ k ∧ k < 1000 ∧ ∀ p H', H p = none → Grow [] H H' → Pot H' p → Q (.ref p) H'
def sp_take (_ : PySem.W.Frag) : Sp := sp2 fun x y H Q => ∃ a m, x = .ref a ∧ y = .int m ∧ Pot H a ∧ 0 < m ∧ m < 2 ^ 200 ∧ ∀ n H', 0 ≤ n → n < m → Grow [a] H H' → Pot H' a → Q (.int n) H'
theorem Sm.of {n : Int} (h1 : -(10 ^ 30) < n) (h2 : n < 10 ^ 30) : Sm n := ⟨h1, h2⟩
def sp_law (K : PySem.W.Frag) : Sp := sp1 fun x H Q => ∃ a ns, x = .ref a ∧ Scr K H a ns ∧ ns.length ≤ 63 ∧ ∀ H', Q (.bl true) H'
theorem sm_nn {A : Int} (h : Sm A) : Deed.Sm ⟨A, none, none⟩ := ⟨h, (fun l z => by cases z), (fun l z => by cases z)⟩
theorem ok_n {A : Int} {o : Option Int} : Deed.Ok ⟨A, none, o⟩ := fun l h z => by cases z
theorem szl {n : Nat} (h : Nat.ble n 1000 = true) : n ≤ sizeLine := Nat.le_of_lt (small1000 (Nat.le_of_ble_eq_true h))
theorem Grow.shrink {H H' : Hp} {l : Addr} (h : H l = none) (g : Grow [l] H H') : Grow [] H H' :=
  ⟨fun b o _ q => g.keep b o (fun z => by rw [List.mem_singleton.mp z] at q; rw [h] at q; cases q) q, g.tup, g.frz⟩
theorem Grow.wk {m : List Addr} {H H' : Hp} (g : Grow [] H H') : Grow m H H' := g.mono (by simp)
theorem Pot.grow {H H' : Hp} {a : Addr} (p : Pot H a) (g : Grow [] H H') : Pot H' a := by
  obtain ⟨u0, u1, hu, hn⟩ := p
  exact ⟨u0, u1, g.keep _ _ (by simp) hu, hn⟩
theorem Pot.new {H : Hp} {a l : Addr} (p : Pot H a) (hl : H l = none) (o : HO) : Pot (upd H l o) a := p.grow (Grow.new hl o)
theorem mulOkR {i j : Int} (h2 : -(2 ^ 60) < j ∧ j < 2 ^ 60) : IntMulOk i j := PySem.IntMulOk.of_right (Nat.le_trans ((PySem.intBits_le_iff (m := 60)).mpr (by obtain ⟨a, b⟩ := h2; omega)) (by decide))
end L3

namespace L3
open PySem PySem.Spec PyProof.Rows L2

section
variable {prog : Program} {w : World} {A : Around} {R : Result → Shared → Prop} {s : Shared}
theorem comp_loop {elt target iter : Expr} {ifs : List Expr} {scope : Scope} {pos : Pos} {it acc : Value} {env : Env} (I : Nat → Shared → Prop)
    (turn : ∀ n s, I n s → wpAny (model prog w) A (pyNext it) (fun r s₁ => match r with
      | none => R (.ok .next) s₁
      | some v => wpAny (model prog w) A (letOwnedTupleGo target it v) (fun _ s₂ => wpAny (model prog w) A (assign target env v) (fun _ s₃ =>
          wpAny (model prog w) A (forIn ifs true fun c r => if r = true then do let ok ← isTrue c env (eval c env); pure (ForInStep.yield ok) else pure (ForInStep.yield r)) (fun ok s₄ =>
            if ok = true then wpAny (model prog w) A (eval elt env) (fun x s₅ =>
              wpAny (model prog w) A (call (.builtin "list.append") [acc, x]) (fun _ s₆ => ∃ m, m < n ∧ I m s₆) (fun _ _ => False) s₅) (fun _ _ => False) s₄
            else ∃ m, m < n ∧ I m s₄) (fun _ _ => False) s₃) (fun _ _ => False) s₂) (fun _ _ => False) s₁) (fun _ _ => False) s)
    (n : Nat) (h : I n s) :
    codeAny (model prog w) A (.compLoop (.ListComp elt [⟨target, iter, ifs, 0⟩] scope pos) 0 it acc env) R s := by
  refine codeAny_loop rfl I (fun n s hI => ?_) n h
  show wpAny _ A ((compTurn (.ListComp elt [⟨target, iter, ifs, 0⟩] scope pos) 0 it acc env).onRaise (fun x => do noteFrame x env; theTreesLotGoes x)) _ _ s
  refine wpAny_noted ?_
  rw [compTurn_list]
  have no : ∀ (E : Value → Shared → Prop) (e : Value) (s : Shared), (fun (_ : Value) (_ : Shared) => False) e s → E e s := fun _ _ _ f => f.elim
  refine wpAny_bind (wpAny_standAt (wpAny_bind (wpAny_mono (turn n s hI) (fun r s₁ h₁ => ?_) (no _))))
  cases r with
  | none => exact wpAny_pure h₁
  | some v =>
    refine wpAny_bind (wpAny_mono h₁ (fun _ s₂ h₂ => ?_) (no _))
    refine wpAny_bind (wpAny_mono h₂ (fun _ s₃ h₃ => wpAny_bind (wpAny_mono h₃ (fun ok s₄ h₄ => ?_) (no _))) (no _))
    cases ok with
    | true =>
      simp only [if_true] at h₄ ⊢
      exact wpAny_bind (wpAny_bind (wpAny_mono h₄ (fun x s₅ h₅ => wpAny_bind (wpAny_mono h₅ (fun _ s₆ h₆ => wpAny_pure (wpAny_pure ⟨rfl, h₆⟩)) (no _))) (no _)))
    | false =>
      simp only [Bool.false_eq_true, if_false] at h₄ ⊢
      first
        | exact wpAny_bind (wpAny_pure (wpAny_pure ⟨rfl, h₄⟩))
        | exact wpAny_pure ⟨rfl, h₄⟩
end

theorem closure_ok {scope : Scope} {env : Env} (hfree : ∀ y ∈ scope.names, y.2 = .free → ∃ c, env.cells.lookup y.1 = some c) :
    ∃ cl, closureFor scope env = pure cl ∧ (∀ x c, cl.lookup x = some c → env.cells.lookup x = some c) ∧ ∀ y ∈ scope.names, y.2 = .free → ∃ c, cl.lookup y.1 = some c := by
  have key : ∀ (l : List (Str × NameKind)) (cs : List (Str × Addr)), (∀ y ∈ l, y.2 = .free → ∃ c, env.cells.lookup y.1 = some c) → (∀ x c, cs.lookup x = some c → env.cells.lookup x = some c) →
      ∃ cl, (forIn l cs (fun (x : Str × NameKind) r => do if x.2 == .free then do let c ← cellOf env x.1; pure (ForInStep.yield ((x.1, c) :: r)) else pure (ForInStep.yield r)) : Sem (List (Str × Addr))) = pure cl ∧
        (∀ x c, cl.lookup x = some c → env.cells.lookup x = some c) ∧ (∀ y ∈ l, y.2 = .free → ∃ c, cl.lookup y.1 = some c) ∧ ∀ x c, cs.lookup x = some c → ∃ c', cl.lookup x = some c' := by
    intro l
    induction l with
    | nil => intro cs _ h2; exact ⟨cs, rfl, h2, fun y hy => absurd hy (by simp), fun x c h => ⟨c, h⟩⟩
    | cons y r ih =>
      intro cs h1 h2
      obtain ⟨n, k⟩ := y
      by_cases hk : k = .free
      · subst hk
        obtain ⟨c, hc⟩ := h1 (n, .free) (by simp) rfl
        have hc' : env.cells.lookup n = some c := hc
        have e0 : cellOf env n = pure c := by unfold cellOf; rw [hc']
        obtain ⟨cl, e, p1, p2, p3⟩ := ih ((n, c) :: cs) (fun z hz => h1 z (List.mem_cons_of_mem _ hz)) (fun x d h => by
          by_cases hx : x = n
          · subst hx
            rw [List.lookup_cons_self] at h
            cases h; exact hc'
          · rw [List.lookup_cons, beq_eq_false_iff_ne.mpr hx] at h
            exact h2 x d h)
        refine ⟨cl, ?_, p1, fun z hz => ?_, fun x d h => ?_⟩
        · rw [List.forIn_cons]
          simp only [beq_self_eq_true, if_true, e0, pure_bind]
          exact e
        · rcases List.mem_cons.mp hz with rfl | hz
          · intro _
            exact p3 n c List.lookup_cons_self
          · exact p2 z hz
        · by_cases hx : x = n
          · subst hx; exact p3 x c List.lookup_cons_self
          · exact p3 x d (by rw [List.lookup_cons, beq_eq_false_iff_ne.mpr hx]; exact h)
      · have hb : (k == NameKind.free) = false := beq_eq_false_iff_ne.mpr hk
        obtain ⟨cl, e, p1, p2, p3⟩ := ih cs (fun z hz => h1 z (List.mem_cons_of_mem _ hz)) h2
        refine ⟨cl, ?_, p1, fun z hz => ?_, p3⟩
        · rw [List.forIn_cons]
          simp only [hb, Bool.false_eq_true, if_false, pure_bind]
          exact e
        · rcases List.mem_cons.mp hz with rfl | hz
          · intro h; exact absurd h hk
          · exact p2 z hz
  obtain ⟨cl, e, p1, p2, _⟩ := key scope.names [] hfree (fun x c h => by cases h)
  refine ⟨cl, ?_, p1, p2⟩
  unfold closureFor
  first
    | (rw [show (forIn scope.names [] _ : Sem (List (Str × Addr))) = pure cl from e]; rfl)
    | (simp only [bind_pure]; exact e)
    | exact e
end L3

namespace L3
open PySem PySem.Spec PyProof.Rows L2

def PIfs (X : Cx) (ifs : List Expr) (t : TT) : Prop :=
  ∀ (pins : List (Addr × Obj)) (s : Shared) (σ : L2.St) (H : Hp) (Q : Bool → Hp → Prop), Inv X pins σ H s → t σ H Q →
    wpAny (model X.prog X.w) X.A (forIn ifs true fun c r => if r = true then do let ok ← isTrue c X.env (eval c X.env); pure (ForInStep.yield ok) else pure (ForInStep.yield r)) (TP X pins σ Q) X.xe s
def tTrue : TT := fun _ H Q => Q true H
theorem pifs_nil {X : Cx} : PIfs X [] tTrue := fun pins s σ H Q I h => wpAny_pure ⟨H, I, h⟩
theorem pifs_one {X : Cx} {c : Expr} {t : TT} (hc : PT X c t) : PIfs X [c] t := fun pins s σ H Q I h => wpAny_tests_one (hc pins s σ H Q I h)

abbrev cxC (X : Cx) (N' : List Str) (scope : Scope) (cl : List (Str × Addr)) (C D : Addr) (fp : List Addr) (s : Shared) (H : Hp) : Cx :=
  { X with N := N', s₀ := s, H₀ := H, env := compEnvC scope cl C X.env, outer := X.stack, ex := D :: fp, fn := fun _ => false, xe := fun _ _ => False }
def capt (sub : List (Option Nat)) (σ : L2.St) : L2.St := sub.map fun o => match o with
  | none => none
  | some i => (match σ[i]? with | some v => v | none => none)
def CompW (J : It) (σ0 : L2.St) (H1 : Hp) (g : TG) (tt : TT) (te : TE) (Q : VK) : Prop :=
  ∃ W : Nat → Nat → List V → L2.St → Hp → Prop, (∃ m, W 0 m [] σ0 H1) ∧ ∀ i m ys σ' H', W i m ys σ' H' →
    (J.stop i H' ∧ ∀ l, H' l = none → Q (.ref l) (upd H' l (.lst ys))) ∨
    (J.go i H' ∧ ∃ Nn : List V → L2.St → Hp → Prop, (∀ zs σ2 H2, Nn zs σ2 H2 → ∃ m', m' < m ∧ W (i + 1) m' zs σ2 H2) ∧
      ∀ x H2, J.yld i H' x H2 → g x σ' H2 fun σ2 H3 => tt σ2 H3 fun b H4 => if b = true then te σ2 H4 fun y H5 => ys.length < sizeLine ∧ Nn (ys ++ [y]) σ2 H5 else Nn ys σ2 H4)
def tComp (wi : TI) (sub : List (Option Nat)) (g : TG) (tt : TT) (te : TE) : TE := fun σ H Q => wi σ H fun J H1 => CompW J (capt sub σ) H1 g tt te Q
structure CSc (X : Cx) (scope : Scope) (N' : List Str) (sub : List (Option Nat)) : Prop where
  free : ∀ y ∈ scope.names, y.2 = .free → X.env.kindOf y.1 = some .cell
  nocell : ∀ y ∈ scope.names, y.2 ≠ .cell
  kind : scope.kind = .function
  names : ∀ y ∈ scope.names, y.2 = .local → scope.names.lookup y.1 = some .local
  len : sub.length = N'.length
  cap : ∀ (j : Nat) (y : Str) (i : Nat), N'[j]? = some y → sub[j]? = some (some i) → X.N[i]? = some y ∧ X.env.scope.names.lookup y = some .cell ∧ scope.names.lookup y = some .free

theorem HOk.track {P : Program} {w : World} {H : Hp} {h : Heap} {a : Addr} {o : HO} (x : HOk P w H h) (hn : H a = none) (new : ObjOk P w (upd H a o) h a o) : HOk P w (upd H a o) h := fun b u e => by
  by_cases hb : b = a
  · subst hb; rw [upd_same] at e; cases e; exact new
  · rw [upd_ne hb] at e
    exact (x b u e).stay (fun c v _ q => q) (fun c q => by rw [upd_ne (ne_of_none q hn)]; exact q) fun c xs q => by rw [upd_ne (ne_of_none q hn)]; exact q
theorem relabel_lookup {scope : Scope} {env : Env} {y : Str} {k : NameKind} (h : (relabel scope env).names.lookup y = some k) :
    ∃ k', scope.names.lookup y = some k' ∧ (k = k' ∨ (k = .cell ∧ k' = .free)) := by
  have key : ∀ l : List (Str × NameKind), (l.map fun (n, k) => if (k == NameKind.free && env.scope.kind == .function && env.kindOf n == some .cell) then (n, NameKind.cell) else (n, k)).lookup y = some k →
      ∃ k', l.lookup y = some k' ∧ (k = k' ∨ (k = .cell ∧ k' = .free)) := by
    intro l
    induction l with
    | nil => intro h; cases h
    | cons p r ih =>
      obtain ⟨n, k0⟩ := p
      intro h
      rw [List.map_cons] at h
      by_cases hc : (k0 == NameKind.free && env.scope.kind == .function && env.kindOf n == some .cell) = true
      · have hf : k0 = .free := by
          simp only [Bool.and_eq_true, beq_iff_eq] at hc
          exact hc.1.1
        dsimp only at h
        rw [if_pos hc, List.lookup_cons] at h
        rw [List.lookup_cons]
        cases hx : y == n with
        | true => rw [hx] at h; cases h; exact ⟨k0, rfl, .inr ⟨rfl, hf⟩⟩
        | false => rw [hx] at h; exact ih h
      · dsimp only at h
        rw [if_neg hc, List.lookup_cons] at h
        rw [List.lookup_cons]
        cases hx : y == n with
        | true => rw [hx] at h; cases h; exact ⟨_, rfl, .inl rfl⟩
        | false => rw [hx] at h; exact ih h
  exact key scope.names h
theorem relabel_cell {scope : Scope} {env : Env} {y : Str} (hk : env.scope.kind = .function) (hc : env.kindOf y = some .cell) (h : scope.names.lookup y = some .free) : (relabel scope env).names.lookup y = some .cell := by
  have key : ∀ l : List (Str × NameKind), l.lookup y = some .free → (l.map fun (n, k) => if (k == NameKind.free && env.scope.kind == .function && env.kindOf n == some .cell) then (n, NameKind.cell) else (n, k)).lookup y = some .cell := by
    intro l
    induction l with
    | nil => intro h; cases h
    | cons p r ih =>
      obtain ⟨n, k0⟩ := p
      intro h
      rw [List.map_cons]
      rw [List.lookup_cons] at h
      dsimp only
      cases hx : y == n with
      | true =>
        rw [hx] at h
        cases h
        have e : y = n := by simpa using hx
        subst e
        rw [if_pos (by simp [hk, hc]), List.lookup_cons, hx]
      | false =>
        rw [hx] at h
        by_cases hc2 : (k0 == NameKind.free && env.scope.kind == .function && env.kindOf n == some .cell) = true
        · rw [if_pos hc2, List.lookup_cons, hx]; exact ih h
        · rw [if_neg hc2, List.lookup_cons, hx]; exact ih h
  exact key scope.names h
section
variable {X : Cx} {pins : List (Addr × Obj)} {σ : L2.St} {H2 : Hp} {s₂ : Shared} {it : Addr} {fp : List Addr} {tn : Nat → Heap → Prop} {J : It} {scope : Scope} {cl : List (Str × Addr)} {N' : List Str} {sub : List (Option Nat)}
theorem comp_start {h₁ : Heap} {tk : Nat} (I : Inv X pins σ H2 s₂) (S : CSc X scope N' sub) (hcl1 : ∀ x c, cl.lookup x = some c → X.env.cells.lookup x = some c) (hcl2 : ∀ y ∈ scope.names, y.2 = .free → ∃ c, cl.lookup y.1 = some c)
    (f2 : ∀ b ∈ fp, FpOk X pins H2 b) (hfp : ∀ b ∈ fp, b < s₂.heap.objs.size) {m : Str → Option Value} {ob : Obj}
    (hns : h₁.Ns (s₂.heap.objs.size + 1) m) (hk : ∀ b o, (s₂.heap.push ob).get? b = some o → h₁.get? b = some o) :
    Inv (cxC X N' scope cl (s₂.heap.objs.size + 1) s₂.heap.objs.size fp { s₂ with heap := s₂.heap.push ob } H2) pins (capt sub σ) H2 { s₂ with heap := h₁, toks := tk } := by
  have old : ∀ b o, s₂.heap.get? b = some o → (s₂.heap.push ob).get? b = some o := fun b o e => Heap.get?_push_of_some _ e
  have old2 : ∀ b o, s₂.heap.get? b = some o → h₁.get? b = some o := fun b o e => hk b o (old b o e)
  have sz : (s₂.heap.push ob).objs.size = s₂.heap.objs.size + 1 := Heap.size_push ..
  have cells : ∀ x c, cl.lookup x = some c → c < s₂.heap.objs.size := fun x c e => let ⟨v, q⟩ := I.cell x c (hcl1 x c e); q.lt
  have has : ∀ x, ((relabel scope X.env).names.lookup x = some .cell ∨ (relabel scope X.env).names.lookup x = some .free) → ∃ c, cl.lookup x = some c := fun x hx => by
    rcases hx with hx | hx
    · obtain ⟨k', e, z⟩ := relabel_lookup hx
      rcases z with z | ⟨_, z⟩
      · subst z; exact absurd rfl (S.nocell _ (PySem.mem_of_lookup e))
      · subst z; exact hcl2 _ (PySem.mem_of_lookup e) rfl
    · obtain ⟨k', e, z⟩ := relabel_lookup hx
      rcases z with z | ⟨z, _⟩
      · subst z; exact hcl2 _ (PySem.mem_of_lookup e) rfl
      · cases z
  have frsz : ∀ b ∈ frs X.stack, b < s₂.heap.objs.size := fun b hb => by
    rcases List.mem_cons.mp (I.stkSub b hb) with z | z
    · rw [z]; exact I.lt
    · exact Nat.lt_of_not_le fun q => I.nofs q z
  refine
    { ok :=
      { mod := I.ok.mod, kind := S.kind, glob := I.ok.glob, blt := I.ok.blt
        above := by show (s₂.heap.push ob).objs.size ≤ s₂.heap.objs.size + 1; rw [sz]; exact Nat.le_refl _
        inj := fun x y c h1 h2 => I.ok.inj x y c (hcl1 x c h1) (hcl1 y c h2)
        has := has
        cab := fun x c z => by cases z
        hd := I.ok.hd, frames := I.ok.frames, stk := .inl rfl
        exf := fun b hb => ?exf
        bs := fun b o e => ⟨old b o (I.bk b o e), (I.bs b o e).2⟩
        bsz := by show X.base.objs.size ≤ (s₂.heap.push ob).objs.size; rw [sz]; exact Nat.le_succ_of_le (Nat.le_trans I.ok.bsz I.sz)
        noex := fun b o e hb => ?noex
        exfs := fun b hb => ?exfs
        funs := ?funs
        frf := I.stkFree }
      os := rfl, bare := I.bare, base := Un.kept fun b u e => hk b u e
      loc := ⟨m, hns, ?loc⟩
      cell := fun x c e => ?cell
      free := I.hok.fresh (Nat.le_succ _)
      freeC := fun x c e => I.freeC x c (hcl1 x c e)
      pin := fun p hp => ?pin
      hok := I.hok.kept old2
      len := ?len }
  case exf =>
    rcases List.mem_cons.mp hb with rfl | hb
    · exact ⟨Nat.ne_of_lt (Nat.lt_succ_self _), fun x c e => Nat.ne_of_lt (cells x c e)⟩
    · exact ⟨Nat.ne_of_lt (Nat.lt_succ_of_lt (hfp b hb)), fun x c e => (f2 b hb).2.2.2.2.1 x c (hcl1 x c e)⟩
  case noex =>
    have hl : b < X.s₀.heap.objs.size := Nat.lt_of_lt_of_le (Heap.lt_size e) I.ok.bsz
    rcases List.mem_cons.mp hb with rfl | hb
    · exact absurd (Nat.lt_of_lt_of_le hl I.sz) (Nat.lt_irrefl _)
    · rcases (f2 b hb).2.2.2.1 with z | z
      · exact I.ok.noex b o e z
      · exact absurd (Nat.lt_of_lt_of_le hl z) (Nat.lt_irrefl _)
  case exfs =>
    intro hs
    rcases List.mem_cons.mp hb with rfl | hb
    · exact absurd (frsz _ hs) (Nat.lt_irrefl _)
    · rcases List.mem_cons.mp (I.stkSub b hs) with z | z
      · exact (f2 b hb).2.1 z
      · exact (f2 b hb).2.2.1 z
  case funs => exact Heap.FunFrames.of_keeps (fun b o e _ => ⟨o, old b o e, rfl⟩) I.stack
  case loc =>
    intro j y v hj hv hvis
    obtain ⟨mX, _, lX⟩ := I.loc
    unfold capt at hv
    rw [List.getElem?_map] at hv
    cases hs : sub[j]? with
    | none => rw [hs] at hv; cases hv
    | some o =>
      rw [hs] at hv
      cases o with
      | none => cases hv
      | some i =>
        obtain ⟨hN, hc, hf⟩ := S.cap j y i hj hs
        have hv' : σ[i]? = some (some v) := by
          have z : (match σ[i]? with | some v => v | none => none) = some v := Option.some.inj hv
          cases q : σ[i]? with
          | none => rw [q] at z; cases z
          | some w => rw [q] at z; rw [show w = some v from z]
        obtain ⟨u, ru, hl⟩ := lX i y v hN hv' (.inr (.inl hc))
        refine ⟨u, ru, ?_⟩
        have kc : (relabel scope X.env).names.lookup y = some .cell := relabel_cell I.ok.kind hc hf
        rcases hl with ⟨z, _⟩ | ⟨_, c, e, ic⟩
        · have z' : X.env.scope.names.lookup y = some .local := z
          rw [hc] at z'; cases z'
        · obtain ⟨c', e'⟩ := hcl2 _ (PySem.mem_of_lookup hf) rfl
          have := hcl1 _ _ e'
          rw [e] at this; cases this
          refine .inr ⟨.inl kc, c, e', ?_⟩
          obtain ⟨oc, h1, h2⟩ := ic
          exact ⟨oc, old2 _ _ h1, h2⟩
  case cell =>
    obtain ⟨v, oc, h1, h2⟩ := I.cell x c (hcl1 x c e)
    exact ⟨v, oc, old2 _ _ h1, h2⟩
  case pin =>
    obtain ⟨p1, p2, p3, p4, p5⟩ := I.pin p hp
    refine ⟨old2 _ _ p1, p2, Nat.ne_of_lt (Nat.lt_succ_of_lt (Heap.lt_size p1)), fun hs => ?_, p5⟩
    rcases List.mem_cons.mp (I.stkSub _ hs) with z | z
    · exact p3 z
    · exact p4 z
  case len =>
    show (capt sub σ).length = N'.length
    unfold capt
    rw [List.length_map]; exact S.len
theorem comp_fin {C D : Addr} {s₀ : Shared} {s' : Shared} {σ' : L2.St} {H' : Hp} {ys : List V} {us : List Value} {k : Nat} {oC : Obj} (I : Inv X pins σ H2 s₂)
    (hs₀ : ∀ b o, s₂.heap.get? b = some o → s₀.heap.get? b = some o) (hos : s₀.os = s₂.os) (hD : s₂.heap.objs.size ≤ D) (hC : s₂.heap.objs.size ≤ C) (hDC : D ≠ C) (f2 : ∀ b ∈ fp, FpOk X pins H2 b)
    (I' : Inv (cxC X N' scope cl C D fp s₀ H2) pins σ' H' s') (hn : H' D = none) (hy : s'.heap.get? D = some { cls := .type "list", data := .seq us.toArray k }) (rv : Vals ys us) (hz : ys.length ≤ sizeLine)
    (ho : s'.heap.get? C = some oC) (hd : ∀ v, oC.data ≠ .cell v) : Inv X (pins ++ [(C, oC)]) σ (upd H' D (.lst ys)) s' ∧ FpOk X pins (upd H' D (.lst ys)) C := by
  have neD : ∀ b o, s₂.heap.get? b = some o → b ≠ D := fun b o e => Nat.ne_of_lt (Nat.lt_of_lt_of_le (Heap.lt_size e) hD)
  have nm : ∀ b o, s₂.heap.get? b = some o → b ∉ fp → b ∉ D :: fp := fun b o e h z => (List.mem_cons.mp z).elim (neD b o e) h
  have U := I'.base
  have HC : upd H' D (.lst ys) C = none := by rw [upd_ne (Ne.symm hDC)]; exact I'.free
  have fpc : FpOk X pins (upd H' D (.lst ys)) C := I.fpOk hC HC
  have un : Un (frs X.stack) fp H2 (upd H' D (.lst ys)) s₂.heap s'.heap :=
    { keep := fun b o e n h1 h2 => U.keep b o (hs₀ b o e) n h1 (nm b o e h2)
      slot := fun b o e n h1 h2 => U.slot b o (hs₀ b o e) n h1 (nm b o e h2)
      free := fun b o e n h2 => by rw [upd_ne (neD b o e)]; exact U.free b o (hs₀ b o e) n (nm b o e h2)
      there := fun b o e h2 => U.there b o (hs₀ b o e) (nm b o e h2)
      tups := fun b xs e => by have z := U.tups b xs e; rw [upd_ne (ne_of_none z hn)]; exact z
      frzs := fun b o u e => by have z := U.frzs b o u e; rw [upd_ne (ne_of_none z hn)]; exact z
      tbls := fun b ps e => by obtain ⟨more, z⟩ := U.tbls b ps e; exact ⟨more, by rw [upd_ne (ne_of_none z hn)]; exact z⟩ }
  have hok : HOk X.prog X.w (upd H' D (.lst ys)) s'.heap := HOk.track I'.hok hn ⟨hz, us, k, rv, hy⟩
  have IX : Inv X pins σ (upd H' D (.lst ys)) s' := I.call' (I'.os.trans hos) un hok I'.bare fun b hb => ⟨(f2 b hb).2.2.2.1, (f2 b hb).2.1, (f2 b hb).2.2.2.2.1, (f2 b hb).2.2.2.2.2⟩
  refine ⟨IX.pins_of fun p hp => ?_, fpc⟩
  rcases List.mem_append.mp hp with hp | hp
  · exact IX.pin p (List.mem_append_right _ hp)
  · rw [List.mem_singleton.mp hp]
    exact ⟨ho, HC, fpc.2.1, fpc.2.2.1, hd⟩
end
section
variable {X : Cx} {scope : Scope} {N' : List Str} {sub : List (Option Nat)} {x : Str} {px pos : Pos} {elt iter : Expr} {ifs : List Expr} {wi : TI} {g : TG} {tt : TT} {te : TE}
theorem CSc.clos {pins : List (Addr × Obj)} {σ : L2.St} {H : Hp} {s : Shared} (S : CSc X scope N' sub) (I : Inv X pins σ H s) : ∃ cl, closureFor scope X.env = pure cl ∧ (∀ x c, cl.lookup x = some c → X.env.cells.lookup x = some c) ∧ ∀ y ∈ scope.names, y.2 = .free → ∃ c, cl.lookup y.1 = some c :=
  closure_ok fun y hy hf => I.ok.has y.1 (.inl (S.free y hy hf))
end
end L3

namespace L3
open PySem PySem.Spec PyProof.Rows L2

def eqVs : List V → List V → Bool
  | [], [] => true
  | x :: xs, y :: ys => eqV x y && eqVs xs ys
  | _, _ => false
theorem eqVs_len : ∀ {xs ys : List V}, eqVs xs ys = true → xs.length = ys.length
  | [], [], _ => rfl
  | x :: xs, y :: ys, h => by
    have h' : (eqV x y && eqVs xs ys) = true := h
    rw [Bool.and_eq_true] at h'
    simp [eqVs_len h'.2]
  | [], _ :: _, h => by cases h
  | _ :: _, [], h => by cases h
theorem eqVs_get : ∀ {xs ys : List V}, eqVs xs ys = true ↔ xs.length = ys.length ∧ ∀ (j : Nat) (x y : V), xs[j]? = some x → ys[j]? = some y → eqV x y = true
  | [], [] => by simp [eqVs]
  | x :: xs, y :: ys => by
    show (eqV x y && eqVs xs ys) = true ↔ _
    rw [Bool.and_eq_true, eqVs_get]
    constructor
    · rintro ⟨h1, h2, h3⟩
      refine ⟨by simp [h2], fun j a b ha hb => ?_⟩
      cases j with
      | zero => simp at ha hb; subst ha hb; exact h1
      | succ j => exact h3 j a b (by simpa using ha) (by simpa using hb)
    · rintro ⟨h1, h2⟩
      exact ⟨h2 0 x y rfl rfl, by simpa using h1, fun j a b ha hb => h2 (j + 1) a b (by simpa using ha) (by simpa using hb)⟩
  | [], _ :: _ => by simp [eqVs]
  | _ :: _, [] => by simp [eqVs]
theorem eqVs_range {xs ys : List V} : ((List.range (min xs.length ys.length)).all (fun j => match xs[j]?, ys[j]? with | some x, some y => eqV x y | _, _ => true) && xs.length == ys.length) = eqVs xs ys := by
  rw [Bool.eq_iff_iff, Bool.and_eq_true, List.all_eq_true, beq_iff_eq, eqVs_get]
  constructor
  · rintro ⟨h1, h2⟩
    refine ⟨h2, fun j x y hx hy => ?_⟩
    have hj : j < xs.length := (List.getElem?_eq_some_iff.mp hx).1
    have := h1 j (List.mem_range.mpr (by rw [← h2]; simpa using hj))
    rw [hx, hy] at this
    exact this
  · rintro ⟨h1, h2⟩
    refine ⟨fun j hj => ?_, h1⟩
    have hj' := List.mem_range.mp hj
    have a : j < xs.length := by omega
    have b : j < ys.length := by omega
    rw [List.getElem?_eq_getElem a, List.getElem?_eq_getElem b]
    exact h2 j _ _ (List.getElem?_eq_getElem a) (List.getElem?_eq_getElem b)
theorem vals_at {xs : List V} {us : List Value} (r : Vals xs us) (j : Nat) (h : j < us.length) : ∃ x, xs[j]? = some x ∧ RelV x us[j] := by
  have hl := r.length
  have hx : xs[j]? = some xs[j] := List.getElem?_eq_getElem (by omega)
  obtain ⟨u, e, q⟩ := r.get hx
  rw [List.getElem?_eq_getElem h] at e
  cases e
  exact ⟨_, hx, q⟩
theorem eqs_at {A : Around} {s : Shared} {xs ys : List V} {us ws : List Value} (r1 : Vals xs us) (r2 : Vals ys ws) (f1 : xs.all flatV = true) (f2 : ys.all flatV = true) :
    ∀ j (h1 : j < us.toArray.size) (h2 : j < ws.toArray.size), SeqAt.EqAt A s us.toArray[j] ws.toArray[j] ((fun j => match xs[j]?, ys[j]? with | some x, some y => eqV x y | _, _ => true) j) := by
  intro j h1 h2
  obtain ⟨x, ex, qx⟩ := vals_at r1 j (by simpa using h1)
  obtain ⟨y, ey, qy⟩ := vals_at r2 j (by simpa using h2)
  have fx : flatV x = true := List.all_eq_true.mp f1 x (List.mem_of_getElem? ex)
  have fy : flatV y = true := List.all_eq_true.mp f2 y (List.mem_of_getElem? ey)
  show SeqAt.EqAt A s _ _ (match xs[j]?, ys[j]? with | some x, some y => eqV x y | _, _ => true)
  rw [ex, ey]
  simpa using eqAt_V qx qy fx fy
section
variable {X : Cx}
theorem isTuple_of {h : Heap} {a : Addr} {its : Array Value} (t : IsTup h a its) : h.IsTuple a its := t
end
section
variable {X : Cx} {pos : Pos}
def tPar3 (i j k : Nat) (ta : TA) : TS := fun D σ H => ta σ H fun vs H1 => ∃ v w z, vs = [v, w, z] ∧ D.nx (((σ.set i (some v)).set j (some w)).set k (some z)) H1
theorem ps_par3 {i j k : Nat} {x y z : Str} {a b c : Expr} {ta : TA} {px py pz pt : Pos} {kt k2 pt2} (hc : X.calm = true) (hN : X.N.Nodup) (hi : X.N[i]? = some x) (hj : X.N[j]? = some y) (hk : X.N[k]? = some z) (hij : i ≠ j) (hik : i ≠ k) (hjk : j ≠ k)
    (hx : X.env.scope.names.lookup x = some .local) (hy : X.env.scope.names.lookup y = some .local) (hz : X.env.scope.names.lookup z = some .local) (ha : PA X [a, b, c] ta)
    (hw : swappedStores [.Tuple [.Name x px, .Name y py, .Name z pz] kt pt] (.Tuple [a, b, c] k2 pt2) X.env = pure (some [x, y, z]))
    (hs : swapsWithSole [.Tuple [.Name x px, .Name y py, .Name z pz] kt pt] (.Tuple [a, b, c] k2 pt2) pos.line X.env = pure false := by rfl) :
    PS X (.Assign [.Tuple [.Name x px, .Name y py, .Name z pz] kt pt] (.Tuple [a, b, c] k2 pt2) pos) (tPar3 i j k ta) := by
  intro pins s σ H D I h
  rw [exec_Assign_arm]
  refine wpAny_bind (wpAny_standAt ?_)
  rw [hs]
  refine wpAny_bind (wpAny_pure ?_)
  rw [if_neg (by decide)]
  refine wpAny_bind (Tuple_ (thn (ha _ pins s σ H _ I h) fun us s1 ⟨vs, H1, I1, r1, q1⟩ => ?_))
  obtain ⟨v, w, z', e1, q1⟩ := q1
  subst e1
  obtain ⟨u1, u2, u3, rfl, rv, rw', rz⟩ : ∃ u1 u2 u3, us = [u1, u2, u3] ∧ RelV v u1 ∧ RelV w u2 ∧ RelV z' u3 := by
    cases r1 with
    | cons p q =>
      cases q with
      | cons p' q' =>
        cases q' with
        | cons p2 q2 =>
          cases q2
          exact ⟨_, _, _, rfl, p, p', p2⟩
  refine wpAny_newObj_type ?_ (by show 3 ≤ sizeLine; decide)
  have I2 : Inv X pins σ H1 { s1 with heap := s1.heap.push { cls := .type "tuple", data := .seq [u1, u2, u3].toArray } } := I1.kept (t' := s1.toks) fun b o e => Heap.get?_push_of_some _ e
  rw [hw]
  refine wpAny_bind (wpAny_pure ?_)
  show wpAny (model X.prog X.w) X.A (do rule "assign.swapped-stores"; let items ← unpackItems (.ref s1.heap.objs.size) 3 none; assignInOrder [fun v => bindName X.env z v, fun v => bindName X.env y v, fun v => bindName X.env x v] items.reverse; pure Flow.next) _ _ _
  refine wpAny_bind (wpAny_rule (wpAny_bind (unpackItems_tuple (items := #[u1, u2, u3]) (I.ok.hd hc) (IsTup.new s1.heap _) fun h' hx' => ?_)))
  have I3 := I2.kept (h' := h') (t' := s1.toks) fun b o e => hx' b o (Nat.ne_of_lt (Heap.lt_size e)) e
  show wpAny _ _ (assignInOrder [fun v => bindName X.env z v, fun v => bindName X.env y v, fun v => bindName X.env x v] [u3, u2, u1] >>= fun _ => pure Flow.next) _ _ _
  refine wpAny_bind (assignInOrder_cons (wpAny_bindName (store_ok I3 hN hk (.inl hz) rz (fun s2 I4 => ?_) (.inr hz))))
  refine assignInOrder_cons (wpAny_bindName (store_ok I4 hN hj (.inl hy) rw' (fun s3 I5 => ?_) (.inr hy)))
  refine assignInOrder_cons (wpAny_bindName (store_ok I5 hN hi (.inl hx) rv (fun s4 I6 => assignInOrder_nil (wpAny_pure ?_)) (.inr hx)))
  have e : (((σ.set k (some z')).set j (some w)).set i (some v)) = (((σ.set i (some v)).set j (some w)).set k (some z')) := by
    rw [List.set_comm _ _ (Ne.symm hjk), List.set_comm _ _ (Ne.symm hik), List.set_comm _ _ (Ne.symm hij)]
  rw [e] at I6
  exact ⟨_, H1, I6, q1⟩
theorem bools_are : ∀ {bs : List Bool} {us : List Value}, Vals (bs.map V.bl) us → LSm.BoolsAre us bs
  | [], _, .nil => .nil
  | b :: bs, _, .cons r t => by
    cases r
    exact .cons b (bools_are t)
theorem call_allB (hcalm : X.calm = true) : CallR X (.builtin "all") (fun xs H Q => ∃ (l : Addr) (bs : List Bool), xs = [.ref l] ∧ SqL X.K H l (bs.map V.bl) ∧ Q (.bl (bs.all id)) H) := by
  intro pins s σ H xs us Q I r h
  obtain ⟨l, bs, rfl, hl, q⟩ := h
  obtain ⟨u, rfl, rx⟩ := vals1 r
  cases (show u = Value.ref l from rx)
  obtain ⟨vs, rv, pl, _⟩ := I.list hl
  have hl' : s.heap.IsList l vs.toArray := pl.isList
  have hb : LSm.BoolsAre vs bs := bools_are rv
  have hlt : l < s.heap.objs.size := by obtain ⟨_, e, _⟩ := hl'; exact Heap.lt_size e
  refine call_all_walk (wpAny_pyIter_list hl' ?_)
  refine ⟨s.heap.objs.size, [s.heap.objs.size, l], [s.heap.objs.size], vs.toArray.size, _, _, fun i => (bs[i]?).getD true, rfl, Walks.list (A := X.A.in1) (I.ok.hd hcalm) _ l (Nat.ne_of_lt hlt) vs.toArray,
    ⟨⟨_, Heap.get?_push_size _ rfl, rfl, rfl⟩, hl'.push _⟩, fun i v s' Q' E' hP hQ => ?_, fun h' tk hk => ?_⟩
  · obtain ⟨b, e, rfl⟩ := hb.get i v (by simpa using hP)
    simp only [e, Option.getD_some] at hQ
    exact wpAny_truthy_bool hQ
  · have e : ((List.range vs.toArray.size).all fun i => (bs[i]?).getD true) = bs.all id := by
      have hlen : bs.length = vs.length := by rw [← rv.length, List.length_map]
      rw [List.size_toArray, ← hlen, Bool.eq_iff_iff, List.all_eq_true, List.all_eq_true]
      constructor
      · intro z b hb'
        obtain ⟨i, hi, rfl⟩ := List.getElem_of_mem hb'
        have := z i (List.mem_range.mpr hi)
        simpa [List.getElem?_eq_getElem hi] using this
      · intro z i hi
        have hi' := List.mem_range.mp hi
        simpa [List.getElem?_eq_getElem hi'] using z _ (List.getElem_mem hi')
    rw [e]
    exact ⟨.bl (bs.all id), H, I.kept (t' := tk) (h' := h') (LSm.kept_iter hk), rfl, q⟩
end
theorem CSc.of {X : Cx} {scope : Scope} {N' : List Str} {sub : List (Option Nat)} (sc : Scope) (NN : List Str) (e : X.env.scope = sc) (en : X.N = NN)
    (h : ((scope.names.all fun y => (y.2 != .free || sc.names.lookup y.1 == some .cell) && (y.2 != .cell) && (y.2 != .local || scope.names.lookup y.1 == some .local)) && (sub.length == N'.length) &&
      ((N'.zip sub).all fun p => match p.2 with | none => true | some i => NN[i]? == some p.1 && sc.names.lookup p.1 == some .cell && scope.names.lookup p.1 == some .free)) = true)
    (hk : scope.kind = .function) : CSc X scope N' sub := by
  rw [Bool.and_eq_true, Bool.and_eq_true] at h
  obtain ⟨⟨h1, h2⟩, h3⟩ := h
  have k1 := fun y hy => List.all_eq_true.mp h1 y hy
  refine ⟨fun y hy hf => ?_, fun y hy hc => ?_, hk, fun y hy hl => ?_, by simpa using h2, fun j y i hj hs => ?_⟩
  · have := k1 y hy
    simp only [hf, Bool.and_eq_true] at this
    have z := this.1.1
    show X.env.scope.names.lookup y.1 = _
    rw [e]; simpa using z
  · have := k1 y hy
    simp only [hc, Bool.and_eq_true] at this
    simp at this
  · have := k1 y hy
    simp only [hl, Bool.and_eq_true] at this
    simpa using this.2
  · have hm : (y, some i) ∈ N'.zip sub := by
      have : (N'.zip sub)[j]? = some (y, some i) := by
        rw [List.getElem?_zip_eq_some]; exact ⟨hj, hs⟩
      exact List.mem_of_getElem? this
    have := List.all_eq_true.mp h3 _ hm
    simp only [Bool.and_eq_true, beq_iff_eq] at this
    rw [e, en]
    exact ⟨this.1.1, this.1.2, this.2⟩
end L3

namespace L3
open PySem PySem.Spec PyProof.Rows L2
def tidyD (a : Int) (lo hi : Option Int) : Deed := if lo ≠ none ∧ lo = hi then ⟨0, lo, hi⟩ else ⟨a, lo, hi⟩
def thrO (e : Deed) (o : Option Int) (d : Option Int) : Option Int := match o with
  | none => d
  | some l => some (e.mk' l)
def joinD (d e : Deed) : Deed := tidyD (d.add + e.add) (thrO e d.lo e.lo) (thrO e d.hi e.hi)
def Deed.Bd (B : Int) (d : Deed) : Prop := (-B ≤ d.add ∧ d.add ≤ B) ∧ (∀ l, d.lo = some l → -B ≤ l ∧ l ≤ B) ∧ ∀ h, d.hi = some h → -B ≤ h ∧ h ≤ B
theorem mk_sn (a l v : Int) : (Deed.mk a (some l) none).mk' v = if l > v + a then l else v + a := rfl
theorem mk_ns (a h v : Int) : (Deed.mk a none (some h)).mk' v = if h < v + a then h else v + a := rfl
theorem mk_ss (a l h v : Int) : (Deed.mk a (some l) (some h)).mk' v = if h < (if l > v + a then l else v + a) then h else (if l > v + a then l else v + a) := rfl
theorem ok_le {a l h : Int} (o : Deed.Ok ⟨a, some l, some h⟩) : l < h ∨ (l = h ∧ a = 0) := o l h rfl rfl
def optA (o : Option Int) : Int := match o with | none => 0 | some i => (i.natAbs : Int)
def Deed.big (d : Deed) : Int := (d.add.natAbs : Int) + optA d.lo + optA d.hi + 1
theorem ok_tidy {a : Int} {lo hi : Option Int} (h : ∀ l u, lo = some l → hi = some u → l ≤ u) : (tidyD a lo hi).Ok := by
  unfold tidyD
  split
  · rename_i c
    intro l u e1 e2
    have e1' : lo = some l := e1
    have e2' : hi = some u := e2
    right
    refine ⟨?_, rfl⟩
    have := c.2
    rw [e1', e2'] at this
    exact Option.some.inj this
  · rename_i c
    intro l u e1 e2
    have e1' : lo = some l := e1
    have e2' : hi = some u := e2
    left
    have := h l u e1' e2'
    have ne : l ≠ u := fun z => c ⟨by rw [e1']; simp, by rw [e1', e2', z]⟩
    omega
theorem tidy_mk {a : Int} {lo hi : Option Int} (v : Int) : (tidyD a lo hi).mk' v = (Deed.mk a lo hi).mk' v := by
  unfold tidyD
  split
  · rename_i c
    obtain ⟨c1, c2⟩ := c
    subst c2
    cases lo with
    | none => exact absurd rfl c1
    | some l =>
      rw [mk_ss, mk_ss]
      split <;> split <;> split <;> (try split) <;> omega
  · rfl
theorem cl_lo (l r : Int) : clampLo (some l) r = max l r := by
  show (if l > r then l else r) = _
  split <;> omega
theorem cl_hi (h r : Int) : clampHi (some h) r = min h r := by
  show (if h < r then h else r) = _
  split <;> omega
theorem cl_lo0 (r : Int) : clampLo none r = r := rfl
theorem cl_hi0 (r : Int) : clampHi none r = r := rfl
theorem max_mono {l x y : Int} (h : x ≤ y) : max l x ≤ max l y := by omega
theorem min_mono {l x y : Int} (h : x ≤ y) : min l x ≤ min l y := by omega
theorem mk_mono {d : Deed} {v w : Int} (h : v ≤ w) : d.mk' v ≤ d.mk' w := by
  obtain ⟨a, lo, hi⟩ := d
  have h' : v + a ≤ w + a := Int.add_le_add_right h a
  cases lo with
  | none =>
    cases hi with
    | none => exact h'
    | some u => simp only [Deed.mk', cl_hi, cl_lo0]; exact min_mono h'
  | some l =>
    cases hi with
    | none => simp only [Deed.mk', cl_lo, cl_hi0]; exact max_mono h'
    | some u => simp only [Deed.mk', cl_lo, cl_hi]; exact min_mono (max_mono h')
theorem joinD_ok {d e : Deed} (od : d.Ok) (oe : e.Ok) : (joinD d e).Ok := by
  refine ok_tidy fun l u e1 e2 => ?_
  obtain ⟨a, lo, hi⟩ := d
  obtain ⟨a', lo', hi'⟩ := e
  cases lo with
  | none =>
    have e1' : lo' = some l := e1
    subst e1'
    cases hi with
    | none =>
      have e2' : hi' = some u := e2
      subst e2'
      have := ok_le oe; omega
    | some h =>
      have e2' : (Deed.mk a' (some l) hi').mk' h = u := Option.some.inj e2
      subst e2'
      cases hi' with
      | none => rw [mk_sn]; split <;> omega
      | some h' =>
        have := ok_le oe
        rw [mk_ss]; (repeat' split) <;> omega
  | some l0 =>
    have e1' : (Deed.mk a' lo' hi').mk' l0 = l := Option.some.inj e1
    subst e1'
    cases hi with
    | none =>
      have e2' : hi' = some u := e2
      subst e2'
      cases lo' with
      | none => rw [mk_ns]; split <;> omega
      | some l' =>
        have := ok_le oe
        rw [mk_ss]; (repeat' split) <;> omega
    | some h =>
      have e2' : (Deed.mk a' lo' hi').mk' h = u := Option.some.inj e2
      subst e2'
      have := ok_le od
      exact mk_mono (by omega)
theorem mk_max {d : Deed} (x y : Int) : d.mk' (max x y) = max (d.mk' x) (d.mk' y) := by
  rcases Int.le_total x y with h | h
  · rw [Int.max_eq_right h, Int.max_eq_right (mk_mono h)]
  · rw [Int.max_eq_left h, Int.max_eq_left (mk_mono h)]
theorem mk_min {d : Deed} (x y : Int) : d.mk' (min x y) = min (d.mk' x) (d.mk' y) := by
  rcases Int.le_total x y with h | h
  · rw [Int.min_eq_left h, Int.min_eq_left (mk_mono h)]
  · rw [Int.min_eq_right h, Int.min_eq_right (mk_mono h)]
theorem mm_lo {F m W : Int} (h : m ≤ F) : max F W = max F (max m W) := by omega
theorem mm_hi {F u L : Int} (h : F ≤ u) : min F L = min F (min u L) := by omega
theorem mm_x {F u W : Int} (h : F ≤ u) : min u (max F W) = max F (min u W) := by omega
theorem mm_in {F G C W : Int} (h : C = W ∨ (W < C ∧ C ≤ F) ∨ (C < W ∧ F ≤ C ∧ G ≤ C)) : min G (max F W) = min G (max F C) := by
  rcases h with rfl | ⟨h1, h2⟩ | ⟨h1, h2, h3⟩
  · rfl
  · rw [Int.max_eq_left h2, Int.max_eq_left (Int.le_trans (Int.le_of_lt h1) h2)]
  · rw [Int.max_eq_right h2, Int.max_eq_right (Int.le_trans h2 (Int.le_of_lt h1)), Int.min_eq_left h3, Int.min_eq_left (Int.le_trans h3 (Int.le_of_lt h1))]
theorem cl_way {a : Int} {lo hi : Option Int} (o : ∀ l h, lo = some l → hi = some h → l ≤ h) (W : Int) :
    clampHi hi (clampLo lo W) = W ∨ (W < clampHi hi (clampLo lo W) ∧ ∀ x, clampHi hi (clampLo lo W) ≤ (Deed.mk a lo hi).mk' x) ∨ (clampHi hi (clampLo lo W) < W ∧ ∀ x, (Deed.mk a lo hi).mk' x ≤ clampHi hi (clampLo lo W)) := by
  cases lo with
  | none =>
    cases hi with
    | none => exact .inl rfl
    | some h =>
      simp only [Deed.mk', cl_hi, cl_lo0]
      rcases Int.le_total W h with c | c
      · exact .inl (Int.min_eq_right c)
      · rw [Int.min_eq_left c]
        rcases Int.lt_or_eq_of_le c with d | d
        · exact .inr (.inr ⟨d, fun x => Int.min_le_left _ _⟩)
        · exact .inl d
  | some l =>
    cases hi with
    | none =>
      simp only [Deed.mk', cl_lo, cl_hi0]
      rcases Int.le_total l W with c | c
      · exact .inl (Int.max_eq_right c)
      · rw [Int.max_eq_left c]
        rcases Int.lt_or_eq_of_le c with d | d
        · exact .inr (.inl ⟨d, fun x => Int.le_max_left _ _⟩)
        · exact .inl d.symm
    | some h =>
      have lh := o l h rfl rfl
      simp only [Deed.mk', cl_lo, cl_hi]
      rcases Int.lt_or_le W l with c | c
      · rw [Int.max_eq_left (Int.le_of_lt c), Int.min_eq_right lh]
        exact .inr (.inl ⟨c, fun x => Int.le_min.mpr ⟨lh, Int.le_max_left _ _⟩⟩)
      · rw [Int.max_eq_right c]
        rcases Int.lt_or_le h W with d | d
        · rw [Int.min_eq_left (Int.le_of_lt d)]
          exact .inr (.inr ⟨d, fun x => Int.min_le_left _ _⟩)
        · exact .inl (Int.min_eq_right d)
theorem joinD_mk {d e : Deed} (od : d.Ok) (oe : e.Ok) (v : Int) : (joinD d e).mk' v = e.mk' (d.mk' v) := by
  unfold joinD
  rw [tidy_mk]
  obtain ⟨a, lo, hi⟩ := d
  obtain ⟨a', lo', hi'⟩ := e
  have q2 : ∀ l h, lo' = some l → hi' = some h → l ≤ h := fun l h e1 e2 => by
    subst e1 e2
    rcases ok_le oe with z | z
    · exact Int.le_of_lt z
    · exact Int.le_of_eq z.1
  have ew : v + (a + a') = v + a + a' := (Int.add_assoc v a a').symm
  have ef : ∀ w, (Deed.mk a' lo' hi').mk' w = clampHi hi' (clampLo lo' (w + a')) := fun _ => rfl
  have fu : ∀ u, hi' = some u → ∀ w, (Deed.mk a' lo' hi').mk' w ≤ u := fun u e w => by
    rw [ef, e, cl_hi]; exact Int.min_le_left _ _
  have fm : ∀ m, lo' = some m → ∀ w, m ≤ (Deed.mk a' lo' hi').mk' w := fun m e w => by
    rw [ef, e, cl_lo]
    cases hi' with
    | none => exact Int.le_max_left _ _
    | some h => rw [cl_hi]; exact Int.le_min.mpr ⟨q2 m h e rfl, Int.le_max_left _ _⟩
  cases lo with
  | none =>
    cases hi with
    | none =>
      show clampHi hi' (clampLo lo' (v + (a + a'))) = clampHi hi' (clampLo lo' (v + a + a'))
      rw [ew]
    | some h =>
      show clampHi (some ((Deed.mk a' lo' hi').mk' h)) (clampLo lo' (v + (a + a'))) = (Deed.mk a' lo' hi').mk' (clampHi (some h) (v + a))
      rw [cl_hi, cl_hi, mk_min, ew, ef (v + a)]
      cases hi' with
      | none => rfl
      | some u => rw [cl_hi u]; exact mm_hi (fu u rfl h)
  | some l =>
    cases hi with
    | none =>
      show clampHi hi' (clampLo (some ((Deed.mk a' lo' hi').mk' l)) (v + (a + a'))) = (Deed.mk a' lo' hi').mk' (clampLo (some l) (v + a))
      rw [cl_lo, cl_lo, mk_max, ew, ef (v + a)]
      have g : max ((Deed.mk a' lo' hi').mk' l) (v + a + a') = max ((Deed.mk a' lo' hi').mk' l) (clampLo lo' (v + a + a')) := by
        cases lo' with
        | none => rfl
        | some m => rw [cl_lo]; exact mm_lo (fm m rfl l)
      rw [g]
      cases hi' with
      | none => rfl
      | some u => rw [cl_hi, cl_hi]; exact mm_x (fu u rfl l)
    | some h =>
      show clampHi (some ((Deed.mk a' lo' hi').mk' h)) (clampLo (some ((Deed.mk a' lo' hi').mk' l)) (v + (a + a'))) = (Deed.mk a' lo' hi').mk' (clampHi (some h) (clampLo (some l) (v + a)))
      rw [cl_hi, cl_lo, cl_hi, cl_lo, mk_min, mk_max, ew, ef (v + a)]
      refine mm_in ?_
      rcases cl_way (a := a') q2 (v + a + a') with z | z | z
      · exact .inl z
      · exact .inr (.inl ⟨z.1, z.2 l⟩)
      · exact .inr (.inr ⟨z.1, z.2 l, z.2 h⟩)
theorem Deed.Sm.bd {d : Deed} (h : d.Sm) : d.Bd (10 ^ 30) := by
  obtain ⟨⟨a1, a2⟩, h1, h2⟩ := h
  exact ⟨⟨by omega, by omega⟩, fun l e => by have := h1 l e; exact ⟨by have := this.1; omega, by have := this.2; omega⟩, fun l e => by have := h2 l e; exact ⟨by have := this.1; omega, by have := this.2; omega⟩⟩
end L3

namespace L3
open PySem PySem.Spec PyProof.Rows L2
theorem iteF' {c : Bool} {A B : Prop} (e : c = false) (h : B) : if c = true then A else B := by rw [e]; exact iteF h
theorem iteT' {c : Bool} {A B : Prop} (e : c = true) (h : A) : if c = true then A else B := by rw [e]; exact iteT h
theorem comp_tup {K : PySem.W.Frag} {a : Addr} {xs : List V} {g : TG} {tt : TT} {te : TE} {Q : VK} {σ : L2.St} {H : Hp} (Pv : Nat → List V → L2.St → Hp → Prop) (h0 : Pv 0 [] σ H) (hl : ∀ i ys σ H, i ≤ xs.length → Pv i ys σ H → SqT K H a xs)
    (hs : ∀ i x ys σ H, xs[i]? = some x → Pv i ys σ H → g x σ H fun σ2 H3 => tt σ2 H3 fun b H4 => if b = true then te σ2 H4 fun y H5 => ys.length < sizeLine ∧ Pv (i + 1) (ys ++ [y]) σ2 H5 else Pv (i + 1) ys σ2 H4)
    (hd : ∀ ys σ H, Pv xs.length ys σ H → ∀ l, H l = none → Q (.ref l) (upd H l (.lst ys))) :
    CompW (Itt K a) σ H g tt te Q := by
  refine ⟨fun i m ys σ H => m = xs.length - i ∧ i ≤ xs.length ∧ Pv i ys σ H, ⟨xs.length, by simp, Nat.zero_le _, h0⟩, ?_⟩
  rintro i m ys σ H ⟨rfl, hi, p⟩
  have q := hl i ys σ H hi p
  by_cases hlt : i < xs.length
  · refine .inr ⟨⟨xs, xs[i], q, by simp [hlt]⟩, Pv (i + 1), fun zs σ' H' p' => ⟨xs.length - (i + 1), by omega, rfl, hlt, p'⟩, fun x H' y => ?_⟩
    obtain ⟨e, y⟩ := y
    subst e
    exact hs i x ys σ _ (y xs q) p
  · have e : i = xs.length := by omega
    subst e
    exact .inl ⟨⟨xs, q, Nat.le_refl _⟩, hd ys σ H p⟩
theorem comp_list {K : PySem.W.Frag} {a : Addr} {xs : List V} {g : TG} {tt : TT} {te : TE} {Q : VK} {σ : L2.St} {H : Hp} (Pv : Nat → List V → L2.St → Hp → Prop) (h0 : Pv 0 [] σ H) (hl : ∀ i ys σ H, i ≤ xs.length → Pv i ys σ H → SqL K H a xs)
    (hs : ∀ i x ys σ H, xs[i]? = some x → Pv i ys σ H → g x σ H fun σ2 H3 => tt σ2 H3 fun b H4 => if b = true then te σ2 H4 fun y H5 => ys.length < sizeLine ∧ Pv (i + 1) (ys ++ [y]) σ2 H5 else Pv (i + 1) ys σ2 H4)
    (hd : ∀ ys σ H, Pv xs.length ys σ H → ∀ l, H l = none → Q (.ref l) (upd H l (.lst ys))) :
    CompW (Itl K a) σ H g tt te Q := by
  refine ⟨fun i m ys σ H => m = xs.length - i ∧ i ≤ xs.length ∧ Pv i ys σ H, ⟨xs.length, by simp, Nat.zero_le _, h0⟩, ?_⟩
  rintro i m ys σ H ⟨rfl, hi, p⟩
  have q := hl i ys σ H hi p
  by_cases hlt : i < xs.length
  · refine .inr ⟨⟨xs, xs[i], q, by simp [hlt]⟩, Pv (i + 1), fun zs σ' H' p' => ⟨xs.length - (i + 1), by omega, rfl, hlt, p'⟩, fun x H' y => ?_⟩
    obtain ⟨e, y⟩ := y
    subst e
    exact hs i x ys σ _ (y xs q) p
  · have e : i = xs.length := by omega
    subst e
    exact .inl ⟨⟨xs, q, Nat.le_refl _⟩, hd ys σ H p⟩
theorem ix_tupK {X : Cx} {K : PySem.W.Frag} (h : X.K = K) : IxR X (rIxT K) := by subst h; exact ix_tup
theorem ix_listK {X : Cx} {K : PySem.W.Frag} (h : X.K = K) : IxR X (rIxL K) := by subst h; exact ix_list
theorem tidy_n {a : Int} {hi : Option Int} : tidyD a none hi = ⟨a, none, hi⟩ := by simp [tidyD]
theorem tidy_e {a l : Int} : tidyD a (some l) (some l) = ⟨0, some l, some l⟩ := by simp [tidyD]
theorem tidy_u {a l : Int} {hi : Option Int} (h : some l ≠ hi) : tidyD a (some l) hi = ⟨a, some l, hi⟩ := by simp [tidyD, h]
def sp_tidy (_ : PySem.W.Frag) : Sp := sp3 fun x y z H Q => ∃ a lo hi, x = .int a ∧ y = ov lo ∧ z = ov hi ∧ ∀ t, H t = none → Q (.ref t) (upd H t (.tup (tidyD a lo hi).vs))
def sp_joined (K : PySem.W.Frag) : Sp := sp2 fun x y H Q => ∃ d e, DeedAt K H x d ∧ DeedAt K H y e ∧ ∀ t, H t = none → Q (.ref t) (upd H t (.tup (joinD d e).vs))
theorem Deed.Bd.mono {d : Deed} {B C : Int} (b : d.Bd B) (h : B ≤ C) : d.Bd C := by
  obtain ⟨⟨b1, b2⟩, b3, b4⟩ := b
  exact ⟨⟨by omega, by omega⟩, fun l e => by have := b3 l e; omega, fun l e => by have := b4 l e; omega⟩
end L3

namespace L3
open PySem PySem.Spec PyProof.Rows L2
end L3

namespace L3
open PySem PySem.Spec PyProof.Rows L2
section
variable {X : Cx}
def rEqL (K : PySem.W.Frag) (neg : Bool) : R2 := fun x y H Q => ∃ a b xs ys, x = .ref a ∧ y = .ref b ∧ SqL K H a xs ∧ SqL K H b ys ∧ xs.all flatV = true ∧ ys.all flatV = true ∧ Q (.bl (if neg then !eqVs xs ys else eqVs xs ys)) H
theorem op_eqL {k : Nat} (hr : Room k X.A) : OpR X (compareOp .Eq) (rEqL X.K false) := by
  intro pins s σ H x y v u Q I rx ry h
  obtain ⟨a, b, xs, ys, rfl, rfl, ha, hb, f1, f2, q⟩ := h
  cases rx; cases ry
  obtain ⟨us, r1, t1, _⟩ := I.list ha
  obtain ⟨ws, r2, t2, _⟩ := I.list hb
  by_cases hl : us.length = ws.length
  · refine SeqAt.eq_listAt t1.isList t2.isList (by simpa using hl) hr.units0 (eqs_at r1 r2 f1 f2) ?_
    have e := eqVs_range (xs := xs) (ys := ys)
    have e2 : (xs.length == ys.length) = true := by rw [beq_iff_eq, r1.length, r2.length]; exact hl
    rw [e2, Bool.and_true, show min xs.length ys.length = xs.length by rw [r1.length, r2.length]; omega] at e
    rw [List.size_toArray, ← r1.length, e]
    exact ⟨.bl _, H, I, rfl, q⟩
  · refine SeqAt.eq_list_lengthsAt t1.isList t2.isList (by simpa using hl) hr.units0 ?_
    have e : eqVs xs ys = false := by
      cases z : eqVs xs ys with
      | false => rfl
      | true => exact absurd (by rw [← r1.length, ← r2.length]; exact eqVs_len z) hl
    rw [e] at q
    exact ⟨.bl _, H, I, rfl, q⟩
end
theorem eqV_int {i j : Int} : eqV (.int i) (.int j) = decide (i = j) := by rw [Bool.eq_iff_iff]; simp [eqV]
theorem eqVs_ints : ∀ {xs ys : List Int}, eqVs (xs.map V.int) (ys.map V.int) = decide (xs = ys)
  | [], [] => rfl
  | x :: xs, y :: ys => by
    show (eqV (.int x) (.int y) && eqVs (xs.map V.int) (ys.map V.int)) = _
    rw [eqV_int, eqVs_ints, Bool.eq_iff_iff]
    simp
  | [], _ :: _ => by simp [eqVs]
  | _ :: _, [] => by simp [eqVs]
theorem flat_ints {xs : List Int} : (xs.map V.int).all flatV = true := by
  rw [List.all_eq_true]; intro x hx; obtain ⟨i, _, rfl⟩ := List.mem_map.mp hx; rfl
theorem Grow.sqL {H H' : Hp} (g : Grow [] H H') {K : PySem.W.Frag} {a : Addr} {xs : List V} (h : SqL K H a xs) : SqL K H' a xs := by
  rcases h with (h | ⟨o, h⟩) | h
  · exact .inl (.inl (g.keep _ _ (by simp) h))
  · exact .inl (.inr ⟨o, g.frz _ _ _ h⟩)
  · exact .inr h
section
variable {K : PySem.W.Frag} {a : Addr} {xs : List V} {n : Nat} {tt : TT} {te : TE} {Q : VK} {σ : L2.St} {H : Hp}
theorem filt_step {p : V → Bool} {f : V → V} {i : Nat} {x : V} (hx : xs[i]? = some x) : ((xs.take (i + 1)).filter p).map f = ((xs.take i).filter p).map f ++ (if p x = true then [f x] else []) := by
  rw [List.take_add_one, hx, List.filter_append, List.map_append]
  congr 1
  show ((([x] : List V)).filter p).map f = _
  by_cases c : p x = true
  · rw [if_pos c, List.filter_cons_of_pos c]; rfl
  · rw [if_neg c, List.filter_cons_of_neg c]; rfl
theorem filt_len {p : V → Bool} {f : V → V} {i : Nat} (h : xs.length ≤ 1000) : (((xs.take i).filter p).map f).length < sizeLine := by
  rw [List.length_map]
  refine small1000 ?_
  have := List.length_filter_le p (xs.take i)
  have := List.length_take_le i xs
  have : (xs.take i).length ≤ xs.length := by rw [List.length_take]; omega
  omega
theorem filt_fin {p : V → Bool} {f : V → V} : ((xs.take xs.length).filter p).map f = (xs.filter p).map f := by rw [List.take_length]
theorem comp_filtT (p : V → Bool) (f : V → V) (hl : SqT K H a xs) (hlen : xs.length ≤ 1000)
    (ht : ∀ x H' (R : Bool → Hp → Prop), x ∈ xs → Grow [] H H' → (∀ H2, Grow [] H' H2 → R (p x) H2) → tt (σ.set n (some x)) H' R)
    (hs : ∀ x H' (R : VK), x ∈ xs → p x = true → Grow [] H H' → (∀ H2, Grow [] H' H2 → R (f x) H2) → te (σ.set n (some x)) H' R)
    (hd : ∀ H' l, Grow [] H H' → H' l = none → Q (.ref l) (upd H' l (.lst ((xs.filter p).map f)))) : CompW (Itt K a) σ H (gName n) tt te Q := by
  refine comp_tup (xs := xs) (fun i ys σ' H' => Grow [] H H' ∧ (σ' = σ ∨ ∃ e, σ' = σ.set n e) ∧ ys = ((xs.take i).filter p).map f) ⟨Grow.refl _ _, .inl rfl, rfl⟩ ?_ ?_ ?_
  · rintro i ys σ' H' _ ⟨g, _⟩
    exact g.sqT hl
  · rintro i x ys σ' H' hx ⟨g, hσ, rfl⟩
    have e : σ'.set n (some x) = σ.set n (some x) := by
      rcases hσ with rfl | ⟨e, rfl⟩
      · rfl
      · rw [List.set_set]
    show tt (σ'.set n (some x)) H' _
    rw [e]
    refine ht x H' _ (List.mem_of_getElem? hx) g fun H2 g2 => ?_
    by_cases c : p x = true
    · rw [if_pos c]
      refine hs x H2 _ (List.mem_of_getElem? hx) c (g.trans g2) fun H3 g3 => ⟨filt_len hlen, (g.trans g2).trans g3, .inr ⟨_, rfl⟩, ?_⟩
      rw [filt_step hx, if_pos c]
    · rw [if_neg c]
      refine ⟨g.trans g2, .inr ⟨_, rfl⟩, ?_⟩
      rw [filt_step hx, if_neg c, List.append_nil]
  · rintro ys σ' H' ⟨g, _, rfl⟩ l hl
    rw [filt_fin]
    exact hd H' l g hl
theorem filt_all {p : V → Bool} (h : ∀ x, p x = true) : xs.filter p = xs := List.filter_eq_self.mpr fun x _ => h x
theorem comp_mapT (f : V → V) (hl : SqT K H a xs) (hlen : xs.length ≤ 1000)
    (hs : ∀ x H' (R : VK), x ∈ xs → Grow [] H H' → (∀ H2, Grow [] H' H2 → R (f x) H2) → te (σ.set n (some x)) H' R)
    (hd : ∀ H' l, Grow [] H H' → H' l = none → Q (.ref l) (upd H' l (.lst (xs.map f)))) : CompW (Itt K a) σ H (gName n) tTrue te Q :=
  comp_filtT (fun _ => true) f hl hlen (fun x H' R _ _ k => k H' (Grow.refl _ _)) (fun x H' R hx _ g k => hs x H' R hx g k) (fun H' l g hl => by rw [filt_all fun _ => rfl]; exact hd H' l g hl)
end
theorem nd {d e : Deed} (h : d = e) : (!decide (d = e)) = false := by rw [decide_eq_true h]; rfl
end L3

namespace L3
open PySem PySem.Spec PyProof.Rows L2
mutual
inductive Dat (K : PySem.W.Frag) (H : Hp) : V → PyData → Prop
  | non : Dat K H .non .none
  | bl (b : Bool) : Dat K H (.bl b) (.bool b)
  | int (i : Int) : Dat K H (.int i) (.int i)
  | tup {a : Addr} {xs : List V} {ds : List PyData} : SqT K H a xs → DatAll K H xs ds → Dat K H (.ref a) (.tuple ds)
  | lst {a : Addr} {xs : List V} {ds : List PyData} : SqL K H a xs → DatAll K H xs ds → Dat K H (.ref a) (.list ds)
inductive DatAll (K : PySem.W.Frag) (H : Hp) : List V → List PyData → Prop
  | nil : DatAll K H [] []
  | cons {x : V} {xs : List V} {d : PyData} {ds : List PyData} : Dat K H x d → DatAll K H xs ds → DatAll K H (x :: xs) (d :: ds)
end
section
variable {X : Cx} {pins : List (Addr × Obj)} {σ : L2.St} {H : Hp} {s : Shared}
mutual
theorem Dat.reads (I : Inv X pins σ H s) : ∀ {x : V} {d : PyData} {u : Value}, Dat X.K H x d → RelV x u → ∃ as, Reads s.heap u d as
  | _, _, u, .non, r => by
    cases (show u = Value.none from r)
    exact ⟨_, .none⟩
  | _, _, u, .bl b, r => by
    cases (show u = Value.bool b from r)
    exact ⟨_, .bool b⟩
  | _, _, u, .int i, r => by
    obtain ⟨t, rfl⟩ := r
    exact ⟨_, .int i t⟩
  | _, _, u, .tup (a := a) hs hd, r => by
    cases (show u = Value.ref a from r)
    obtain ⟨its, r1, ⟨o, e1, e2, n, e3⟩, _⟩ := I.tuple hs
    obtain ⟨as, q⟩ := DatAll.reads I hd r1
    exact ⟨_, .tuple e1 e2 e3 q⟩
  | _, _, u, .lst (a := a) hs hd, r => by
    cases (show u = Value.ref a from r)
    obtain ⟨its, r1, ⟨o, n, e1, e2, _, e3⟩, _⟩ := I.list hs
    obtain ⟨as, q⟩ := DatAll.reads I hd r1
    exact ⟨_, .list e1 e2 e3 q⟩
theorem DatAll.reads (I : Inv X pins σ H s) : ∀ {xs : List V} {ds : List PyData} {us : List Value}, DatAll X.K H xs ds → Vals xs us → ∃ as, ReadsAll s.heap us ds as
  | _, _, _, .nil, .nil => ⟨_, .nil⟩
  | _, _, _, .cons h t, .cons r rs => by
    obtain ⟨as, q⟩ := Dat.reads I h r
    obtain ⟨bs, q2⟩ := DatAll.reads I t rs
    exact ⟨_, .cons q q2⟩
end
end
mutual
/-- a bound of the text's length -/
def wtD : PyData → Nat
  | .list xs | .tuple xs => wtAll xs + 3
  | .int _ => 1921
  | .none | .bool _ => 5
  | _ => 20000000
def wtAll : List PyData → Nat
  | [] => 0
  | x :: xs => wtD x + 2 + wtAll xs
end
mutual
theorem shown_wt : ∀ {d : PyData}, d.showable = true → d.hasDict = false → wtD d ≤ 16777216 → d.shown.length ≤ wtD d
  | .none, _, _, _ => by decide
  | .bool b, _, _, _ => by cases b <;> decide
  | .int i, h, _, _ => int_text_len_1921 (of_decide_eq_true h)
  | .str _, _, _, z => absurd (show 20000000 ≤ 16777216 from z) (by decide)
  | .list xs, h, h2, z => by
    have z' : wtAll xs + 3 ≤ 16777216 := z
    have q := shown_wtAll (xs := xs) h h2 (by omega)
    have l := listText_len_le (PyData.shownAll xs)
    show (listText (PyData.shownAll xs)).length ≤ wtAll xs + 3
    omega
  | .tuple xs, h, h2, z => by
    have z' : wtAll xs + 3 ≤ 16777216 := z
    have q := shown_wtAll (xs := xs) h h2 (by omega)
    have l := tupleText_len_le (PyData.shownAll xs)
    show (tupleText (PyData.shownAll xs)).length ≤ wtAll xs + 3
    omega
  | .dict _, _, h, _ => by cases h
theorem shown_wtAll : ∀ {xs : List PyData}, PyData.showableAll xs = true → PyData.hasDictAll xs = false → wtAll xs ≤ 16777216 → ((PyData.shownAll xs).map (·.length)).sum + 2 * (PyData.shownAll xs).length ≤ wtAll xs
  | [], _, _, _ => by decide
  | x :: xs, h, h2, z => by
    have h' : (x.showable && PyData.showableAll xs) = true := h
    have h2' : (x.hasDict || PyData.hasDictAll xs) = false := h2
    rw [Bool.and_eq_true] at h'
    rw [Bool.or_eq_false_iff] at h2'
    have z' : wtD x + 2 + wtAll xs ≤ 16777216 := z
    have q1 := shown_wt (d := x) h'.1 h2'.1 (by omega)
    have q2 := shown_wtAll (xs := xs) h'.2 h2'.2 (by omega)
    show (x.shown.length :: (PyData.shownAll xs).map (·.length)).sum + 2 * ((PyData.shownAll xs).length + 1) ≤ wtD x + 2 + wtAll xs
    rw [List.sum_cons]
    omega
end
theorem shown_fits {d : PyData} (h1 : d.showable = true) (h2 : d.hasDict = false) (h3 : wtD d ≤ 16777216) : d.shown.length ≤ sizeLine := by
  rw [sizeLine_eq]; exact Nat.le_trans (shown_wt h1 h2 h3) h3
end L3

namespace L3
open PySem PySem.Spec PyProof.Rows L2
section
variable {X : Cx} {a b : Expr} {rest : List Expr} {ta tb : TE} {pos : Pos}
end
abbrev Span := Option (Option Int × Option Int)
def SpanAt (K : PySem.W.Frag) (H : Hp) (x : V) : Span → Prop
  | none => x = .non
  | some (l, h) => ∃ a, x = .ref a ∧ SqT K H a [ov l, ov h]
def oD : Option Int → PyData
  | none => .none
  | some i => .int i
def spanD : Span → PyData
  | none => .none
  | some (l, h) => .tuple [oD l, oD h]
theorem dat_ov {K : PySem.W.Frag} {H : Hp} (o : Option Int) : Dat K H (ov o) (oD o) := by cases o; exact .non; exact .int _
theorem SpanAt.dat {K : PySem.W.Frag} {H : Hp} {x : V} {sp : Span} (h : SpanAt K H x sp) : Dat K H x (spanD sp) := by
  match sp, h with
  | none, h => cases (show x = .non from h); exact .non
  | some (l, u), ⟨a, e, q⟩ => subst e; exact .tup q (.cons (dat_ov l) (.cons (dat_ov u) .nil))
theorem all_trues {α : Type} (xs : List α) : (xs.map (fun _ => true)).all id = true := by rw [List.all_eq_true]; intro x hx; obtain ⟨_, _, rfl⟩ := List.mem_map.mp hx; rfl
theorem trues_eq (gs : List Int) : (gs.map V.int).map (fun _ => V.bl true) = (gs.map (fun _ => true)).map V.bl := by rw [List.map_map, List.map_map]; rfl
end L3

namespace L3
open PySem PySem.Spec PyProof.Rows L2
section
variable {K : PySem.W.Frag} {a : Addr} {xs : List V} {lo : Int} {n k : Nat} {te : TE} {Q : VK} {σ : L2.St} {H : Hp}
theorem comp_rng (Pv : Nat → List V → Hp → Prop) (h0 : Pv 0 [] H)
    (hs : ∀ i ys H', i < n → Pv i ys H' → te (σ.set k (some (.int (lo + i)))) H' fun y H5 => ys.length < sizeLine ∧ Pv (i + 1) (ys ++ [y]) H5)
    (hd : ∀ ys H', Pv n ys H' → ∀ l, H' l = none → Q (.ref l) (upd H' l (.lst ys))) : CompW (Itr lo n) σ H (gName k) tTrue te Q := by
  refine ⟨fun i m ys σ' H' => m = n - i ∧ i ≤ n ∧ (σ' = σ ∨ ∃ e, σ' = σ.set k e) ∧ Pv i ys H', ⟨n, by simp, Nat.zero_le _, .inl rfl, h0⟩, ?_⟩
  rintro i m ys σ' H' ⟨rfl, hi, hσ, p⟩
  by_cases hlt : i < n
  · refine .inr ⟨hlt, fun zs σ2 H2 => (σ2 = σ ∨ ∃ e, σ2 = σ.set k e) ∧ Pv (i + 1) zs H2, fun zs σ2 H2 p' => ⟨n - (i + 1), by omega, rfl, hlt, p'.1, p'.2⟩, fun x H2 y => ?_⟩
    obtain ⟨e, y⟩ := y
    subst e y
    have e : σ'.set k (some (V.int (lo + i))) = σ.set k (some (V.int (lo + i))) := by
      rcases hσ with rfl | ⟨e, rfl⟩
      · rfl
      · rw [List.set_set]
    show if true = true then te (σ'.set k (some (V.int (lo + i)))) H2 (fun y H5 => ys.length < sizeLine ∧ ((σ'.set k (some (V.int (lo + i))) = σ ∨ ∃ e, σ'.set k (some (V.int (lo + i))) = σ.set k e) ∧ Pv (i + 1) (ys ++ [y]) H5)) else ((σ'.set k (some (V.int (lo + i))) = σ ∨ ∃ e, σ'.set k (some (V.int (lo + i))) = σ.set k e) ∧ Pv (i + 1) ys H2)
    rw [if_pos rfl, e]
    have e2 : (fun (y : V) (H5 : Hp) => ys.length < sizeLine ∧ ((σ.set k (some (V.int (lo + i))) = σ ∨ ∃ e, σ.set k (some (V.int (lo + i))) = σ.set k e) ∧ Pv (i + 1) (ys ++ [y]) H5)) = fun y H5 => ys.length < sizeLine ∧ Pv (i + 1) (ys ++ [y]) H5 := by
      funext y H5
      exact propext ⟨fun z => ⟨z.1, z.2.2⟩, fun z => ⟨z.1, .inr ⟨_, rfl⟩, z.2⟩⟩
    rw [e2]
    exact hs i ys H2 hlt p
  · have e : i = n := by omega
    subst e
    exact .inl ⟨Nat.le_refl _, hd ys H' p⟩
theorem comp_listP (Pv : Nat → List V → Hp → Prop) (h0 : Pv 0 [] H) (hl : ∀ i ys H', Pv i ys H' → SqL K H' a xs)
    (hs : ∀ i x ys H', xs[i]? = some x → Pv i ys H' → te (σ.set k (some x)) H' fun y H5 => ys.length < sizeLine ∧ Pv (i + 1) (ys ++ [y]) H5)
    (hd : ∀ ys H', Pv xs.length ys H' → ∀ l, H' l = none → Q (.ref l) (upd H' l (.lst ys))) : CompW (Itl K a) σ H (gName k) tTrue te Q := by
  refine comp_list (xs := xs) (fun i ys σ' H' => (σ' = σ ∨ ∃ e, σ' = σ.set k e) ∧ Pv i ys H') ⟨.inl rfl, h0⟩ (fun i ys σ' H' _ p => hl i ys H' p.2) ?_ (fun ys σ' H' p l hl => hd ys H' p.2 l hl)
  rintro i x ys σ' H' hx ⟨hσ, p⟩
  have e : σ'.set k (some x) = σ.set k (some x) := by
    rcases hσ with rfl | ⟨e, rfl⟩
    · rfl
    · rw [List.set_set]
  show if true = true then te (σ'.set k (some x)) H' (fun y H5 => ys.length < sizeLine ∧ ((σ'.set k (some x) = σ ∨ ∃ e, σ'.set k (some x) = σ.set k e) ∧ Pv (i + 1) (ys ++ [y]) H5)) else ((σ'.set k (some x) = σ ∨ ∃ e, σ'.set k (some x) = σ.set k e) ∧ Pv (i + 1) ys H')
  rw [if_pos rfl, e]
  have e2 : (fun (y : V) (H5 : Hp) => ys.length < sizeLine ∧ ((σ.set k (some x) = σ ∨ ∃ e, σ.set k (some x) = σ.set k e) ∧ Pv (i + 1) (ys ++ [y]) H5)) = fun y H5 => ys.length < sizeLine ∧ Pv (i + 1) (ys ++ [y]) H5 := by
    funext y H5
    exact propext ⟨fun z => ⟨z.1, z.2.2⟩, fun z => ⟨z.1, .inr ⟨_, rfl⟩, z.2⟩⟩
  rw [e2]
  exact hs i x ys H' hx p
end
theorem Grow.fresh {m : List Addr} {H H' : Hp} (h : ∀ b ∈ m, H b = none) (g : Grow m H H') : Grow [] H H' :=
  ⟨fun b o _ q => g.keep b o (fun z => by rw [h b z] at q; cases q) q, g.tup, g.frz⟩
theorem Grow.less {m m' : List Addr} {H H' : Hp} (g : Grow m H H') (h : ∀ b ∈ m, b ∈ m' ∨ H b = none) : Grow m' H H' :=
  ⟨fun b o n q => g.keep b o (fun z => by
    rcases h b z with w | w
    · exact n w
    · rw [w] at q; cases q) q, g.tup, g.frz⟩
theorem Pot.ne {H : Hp} {a l : Addr} (p : Pot H a) (h : H l = none) : l ∉ [a] := by
  intro z
  obtain ⟨z0, z1, hz, _⟩ := p
  rw [List.mem_singleton.mp z, hz] at h
  cases h
theorem ixN_nat {n : Nat} {i : Int} (h0 : 0 ≤ i) (h : i.toNat < n) : ixN n i = some i.toNat := by
  unfold ixN; rw [if_pos h0, if_pos (by omega)]
theorem ixGet {xs : List V} {i : Int} {j : Nat} {v : V} (h : ixN xs.length i = some j) (hv : xs[j]? = some v) : atI xs i = some v := by
  unfold atI; rw [h]; exact hv
structure Ask where
  hand : Int
  box : Int
  deed : Deed
def AskAt (K : PySem.W.Frag) (H : Hp) (x : V) (k : Ask) : Prop := ∃ r rd, x = .ref r ∧ SqT K H r [.int k.hand, .int k.box, .ref rd] ∧ SqT K H rd k.deed.vs
def AllA (K : PySem.W.Frag) (H : Hp) : List V → List Ask → Prop
  | [], [] => True
  | x :: xs, k :: ks => AskAt K H x k ∧ AllA K H xs ks
  | _, _ => False
def AsksAt (K : PySem.W.Frag) (H : Hp) (x : V) (ks : List Ask) : Prop := ∃ r xs, x = .ref r ∧ SqT K H r xs ∧ AllA K H xs ks
def BoardAt (K : PySem.W.Frag) (H : Hp) (x : V) (b : List Int) : Prop := ∃ r, x = .ref r ∧ SqT K H r (b.map V.int)
def AskOk (m : Nat) (k : Ask) : Prop := 0 ≤ k.hand ∧ k.hand ≤ 15 ∧ 0 ≤ k.box ∧ k.box < m ∧ k.deed.Ok
theorem Grow.ask {m : List Addr} {H H' : Hp} (g : Grow m H H') {K : PySem.W.Frag} {x : V} {k : Ask} (h : AskAt K H x k) : AskAt K H' x k := by
  obtain ⟨r, rd, e, h1, h2⟩ := h
  exact ⟨r, rd, e, g.sqT h1, g.sqT h2⟩
theorem Grow.allA {m : List Addr} {H H' : Hp} (g : Grow m H H') {K : PySem.W.Frag} : ∀ {xs : List V} {ks : List Ask}, AllA K H xs ks → AllA K H' xs ks
  | [], [], _ => trivial
  | _ :: _, _ :: _, ⟨h, t⟩ => ⟨g.ask h, g.allA t⟩
  | [], _ :: _, h => h.elim
  | _ :: _, [], h => h.elim
theorem Grow.asks {m : List Addr} {H H' : Hp} (g : Grow m H H') {K : PySem.W.Frag} {x : V} {ks : List Ask} (h : AsksAt K H x ks) : AsksAt K H' x ks := by
  obtain ⟨r, xs, e, h1, h2⟩ := h
  exact ⟨r, xs, e, g.sqT h1, g.allA h2⟩
theorem Grow.board {m : List Addr} {H H' : Hp} (g : Grow m H H') {K : PySem.W.Frag} {x : V} {b : List Int} (h : BoardAt K H x b) : BoardAt K H' x b := by
  obtain ⟨r, e, h1⟩ := h
  exact ⟨r, e, g.sqT h1⟩
theorem AllA.len {K : PySem.W.Frag} {H : Hp} : ∀ {xs : List V} {ks : List Ask}, AllA K H xs ks → xs.length = ks.length
  | [], [], _ => rfl
  | _ :: xs, _ :: ks, ⟨_, t⟩ => congrArg (· + 1) (AllA.len t)
  | [], _ :: _, h => h.elim
  | _ :: _, [], h => h.elim
theorem AllA.get {K : PySem.W.Frag} {H : Hp} : ∀ {xs : List V} {ks : List Ask} {i : Nat} {x : V}, AllA K H xs ks → xs[i]? = some x → ∃ k, ks[i]? = some k ∧ AskAt K H x k
  | _ :: _, k :: _, 0, x, ⟨h, _⟩, e => by
    obtain rfl := Option.some.inj e
    exact ⟨k, rfl, h⟩
  | _ :: _, _ :: _, i + 1, x, ⟨_, t⟩, e => AllA.get (i := i) t e
  | [], [], i, x, _, e => by cases e
  | [], _ :: _, _, _, h, _ => h.elim
  | _ :: _, [], _, _, h, _ => h.elim
theorem AllA.snoc {K : PySem.W.Frag} {H : Hp} : ∀ {xs : List V} {ks : List Ask} {x : V} {k : Ask}, AllA K H xs ks → AskAt K H x k → AllA K H (xs ++ [x]) (ks ++ [k])
  | [], [], _, _, _, h => ⟨h, trivial⟩
  | _ :: _, _ :: _, _, _, ⟨h, t⟩, q => ⟨h, AllA.snoc t q⟩
  | [], _ :: _, _, _, h, _ => h.elim
  | _ :: _, [], _, _, h, _ => h.elim
theorem getD_of {xs : List Int} {i : Nat} (h : i < xs.length) : xs[i]? = some (xs.getD i 0) := by
  rw [List.getD_eq_getElem?_getD, List.getElem?_eq_getElem h]; rfl
def InB (B : Int) (xs : List Int) : Prop := ∀ v ∈ xs, -B < v ∧ v < B
def intsD (xs : List Int) : PyData := .tuple (xs.map PyData.int)
def deedD (d : Deed) : PyData := .tuple [.int d.add, oD d.lo, oD d.hi]
def askD (k : Ask) : PyData := .tuple [.int k.hand, .int k.box, deedD k.deed]
def asksD (ks : List Ask) : PyData := .tuple (ks.map askD)
theorem dat_ints {K : PySem.W.Frag} {H : Hp} : ∀ xs : List Int, DatAll K H (xs.map V.int) (xs.map PyData.int)
  | [] => .nil
  | x :: xs => .cons (.int x) (dat_ints xs)
theorem BoardAt.dat {K : PySem.W.Frag} {H : Hp} {x : V} {b : List Int} (h : BoardAt K H x b) : Dat K H x (intsD b) := by
  obtain ⟨r, rfl, h⟩ := h
  exact .tup h (dat_ints b)
theorem dat_deed {K : PySem.W.Frag} {H : Hp} {r : Addr} {d : Deed} (h : SqT K H r d.vs) : Dat K H (.ref r) (deedD d) := .tup h (.cons (.int _) (.cons (dat_ov _) (.cons (dat_ov _) .nil)))
theorem AskAt.dat {K : PySem.W.Frag} {H : Hp} {x : V} {k : Ask} (h : AskAt K H x k) : Dat K H x (askD k) := by
  obtain ⟨r, rd, rfl, h1, h2⟩ := h
  exact .tup h1 (.cons (.int _) (.cons (.int _) (.cons (dat_deed h2) .nil)))
theorem AllA.dat {K : PySem.W.Frag} {H : Hp} : ∀ {xs : List V} {ks : List Ask}, AllA K H xs ks → DatAll K H xs (ks.map askD)
  | [], [], _ => .nil
  | _ :: _, _ :: _, ⟨h, t⟩ => .cons h.dat (AllA.dat t)
  | [], _ :: _, h => h.elim
  | _ :: _, [], h => h.elim
theorem AsksAt.dat {K : PySem.W.Frag} {H : Hp} {x : V} {ks : List Ask} (h : AsksAt K H x ks) : Dat K H x (asksD ks) := by
  obtain ⟨r, xs, rfl, h1, h2⟩ := h
  exact .tup h1 h2.dat
def Sh (d : PyData) (w n : Nat) : Prop := d.showable = true ∧ d.hasDict = false ∧ wtD d ≤ w ∧ d.depth ≤ n
theorem Sh.mono {d : PyData} {w w' n n' : Nat} (h : Sh d w n) (h1 : w ≤ w') (h2 : n ≤ n') : Sh d w' n' := ⟨h.1, h.2.1, Nat.le_trans h.2.2.1 h1, Nat.le_trans h.2.2.2 h2⟩
theorem Sh.fits {d : PyData} {w n : Nat} (h : Sh d w n) (hw : w ≤ 16777216) : d.shown.length ≤ sizeLine := shown_fits h.1 h.2.1 (Nat.le_trans h.2.2.1 hw)
def ToldAt (K : PySem.W.Frag) (H : Hp) (x : V) (p : List Int × List Int) : Prop := ∃ r r1 r2, x = .ref r ∧ SqT K H r [.ref r1, .ref r2] ∧ SqT K H r1 (p.1.map V.int) ∧ SqT K H r2 (p.2.map V.int)
def toldD (p : List Int × List Int) : PyData := .tuple [intsD p.1, intsD p.2]
theorem ToldAt.dat {K : PySem.W.Frag} {H : Hp} {x : V} {p : List Int × List Int} (h : ToldAt K H x p) : Dat K H x (toldD p) := by
  obtain ⟨r, r1, r2, rfl, h0, h1, h2⟩ := h
  exact .tup h0 (.cons (.tup h1 (dat_ints _)) (.cons (.tup h2 (dat_ints _)) .nil))
theorem InB.mono {B C : Int} {xs : List Int} (h : InB B xs) (hC : B ≤ C) : InB C xs := fun v hv => by have := h v hv; omega
def sp_is_within (K : PySem.W.Frag) : Sp := sp3 fun x y z H Q => ∃ i l u, x = .int i ∧ y = .int l ∧ z = .int u ∧ Q (.bl (decide (l ≤ i) && decide (i ≤ u))) H
def sp_is_board (K : PySem.W.Frag) : Sp := sp1 fun x H Q => ∃ b, BoardAt K H x b ∧ 1 ≤ b.length ∧ b.length ≤ 16 ∧ ∀ H', Grow [] H H' → Q (.bl true) H'
def sp_need_board (K : PySem.W.Frag) : Sp := sp1 fun x H Q => ∃ b, BoardAt K H x b ∧ 1 ≤ b.length ∧ b.length ≤ 16 ∧ ∀ H', Grow [] H H' → Q .non H'
def sp_is_ask (K : PySem.W.Frag) : Sp := sp2 fun x y H Q => ∃ b k, BoardAt K H x b ∧ AskAt K H y k ∧ AskOk b.length k ∧ Q (.bl true) H
def sp_are_asks (K : PySem.W.Frag) : Sp := sp2 fun x y H Q => ∃ b ks, BoardAt K H x b ∧ 1 ≤ b.length ∧ b.length ≤ 16 ∧ AsksAt K H y ks ∧ ks.length ≤ 1000 ∧ (∀ k ∈ ks, AskOk b.length k) ∧ ∀ H', Grow [] H H' → Q (.bl true) H'
def sp_need_asks (K : PySem.W.Frag) : Sp := sp2 fun x y H Q => ∃ b ks, BoardAt K H x b ∧ 1 ≤ b.length ∧ b.length ≤ 16 ∧ AsksAt K H y ks ∧ ks.length ≤ 1000 ∧ (∀ k ∈ ks, AskOk b.length k) ∧ ∀ H', Grow [] H H' → Q .non H'
end L3

namespace L3
open PySem PySem.Spec PyProof.Rows L2
inductive Tr where
  | leaf (n : Int)
  | node (l r : Tr)
def Tr.ht : Tr → Nat
  | .leaf _ => 0
  | .node l r => max l.ht r.ht + 1
def TreeAt (K : PySem.W.Frag) (H : Hp) (x : V) : Tr → Prop
  | .leaf n => x = .int n
  | .node l r => ∃ a xl xr, x = .ref a ∧ SqT K H a [xl, xr] ∧ TreeAt K H xl l ∧ TreeAt K H xr r
def trD : Tr → PyData
  | .leaf n => .int n
  | .node l r => .tuple [trD l, trD r]
theorem TreeAt.dat {K : PySem.W.Frag} {H : Hp} : ∀ {t : Tr} {x : V}, TreeAt K H x t → Dat K H x (trD t)
  | .leaf n, x, h => by
    cases (show x = V.int n from h)
    exact .int n
  | .node l r, x, h => by
    obtain ⟨a, xl, xr, e, hs, h1, h2⟩ := h
    subst e
    exact .tup hs (.cons (TreeAt.dat h1) (.cons (TreeAt.dat h2) .nil))
end L3

namespace L3
open PySem PySem.Spec PyProof.Rows L2
def sp4 (b : V → V → V → V → Hp → VK → Prop) : Sp := fun vs H Q _ => ∃ x y z u, vs = [x, y, z, u] ∧ b x y z u H Q
theorem sp4_len {b : V → V → V → V → Hp → VK → Prop} {p q r s : Str} : ∀ vs H Q E, sp4 b vs H Q E → vs.length = [p, q, r, s].length := fun vs H Q E h => by
  obtain ⟨x, y, z, u, rfl, _⟩ := h; rfl
def AllR {α : Type} (R : V → α → Prop) : List V → List α → Prop
  | [], [] => True
  | x :: xs, k :: ks => R x k ∧ AllR R xs ks
  | _, _ => False
section
variable {α : Type} {R S : V → α → Prop}
theorem AllR.imp (h : ∀ x k, R x k → S x k) : ∀ {xs : List V} {ks : List α}, AllR R xs ks → AllR S xs ks
  | [], [], _ => trivial
  | _ :: _, _ :: _, ⟨a, t⟩ => ⟨h _ _ a, AllR.imp h t⟩
  | [], _ :: _, z => z.elim
  | _ :: _, [], z => z.elim
theorem AllR.len : ∀ {xs : List V} {ks : List α}, AllR R xs ks → xs.length = ks.length
  | [], [], _ => rfl
  | _ :: xs, _ :: ks, ⟨_, t⟩ => congrArg (· + 1) (AllR.len t)
  | [], _ :: _, h => h.elim
  | _ :: _, [], h => h.elim
theorem AllR.get : ∀ {xs : List V} {ks : List α} {i : Nat} {x : V}, AllR R xs ks → xs[i]? = some x → ∃ k, ks[i]? = some k ∧ R x k
  | _ :: _, k :: _, 0, x, ⟨h, _⟩, e => by
    obtain rfl := Option.some.inj e
    exact ⟨k, rfl, h⟩
  | _ :: _, _ :: _, i + 1, x, ⟨_, t⟩, e => AllR.get (i := i) t e
  | [], [], i, x, _, e => by cases e
  | [], _ :: _, _, _, h, _ => h.elim
  | _ :: _, [], _, _, h, _ => h.elim
theorem AllR.getR : ∀ {xs : List V} {ks : List α} {i : Nat} {k : α}, AllR R xs ks → ks[i]? = some k → ∃ x, xs[i]? = some x ∧ R x k
  | x :: _, _ :: _, 0, k, ⟨h, _⟩, e => by
    obtain rfl := Option.some.inj e
    exact ⟨x, rfl, h⟩
  | _ :: _, _ :: _, i + 1, k, ⟨_, t⟩, e => AllR.getR (i := i) t e
  | [], [], i, k, _, e => by cases e
  | [], _ :: _, _, _, h, _ => h.elim
  | _ :: _, [], _, _, h, _ => h.elim
theorem AllR.app : ∀ {xs ys : List V} {ks js : List α}, AllR R xs ks → AllR R ys js → AllR R (xs ++ ys) (ks ++ js)
  | [], _, [], _, _, h => h
  | _ :: _, _, _ :: _, _, ⟨h, t⟩, q => ⟨h, AllR.app t q⟩
  | [], _, _ :: _, _, h, _ => h.elim
  | _ :: _, _, [], _, h, _ => h.elim
theorem AllR.one {x : V} {k : α} (h : R x k) : AllR R [x] [k] := ⟨h, trivial⟩
theorem AllR.take : ∀ {xs : List V} {ks : List α} {n : Nat}, AllR R xs ks → AllR R (xs.take n) (ks.take n)
  | [], [], n, _ => by rw [List.take_nil, List.take_nil]; trivial
  | _ :: _, _ :: _, 0, _ => trivial
  | _ :: _, _ :: _, n + 1, ⟨h, t⟩ => ⟨h, AllR.take t⟩
  | [], _ :: _, _, h => h.elim
  | _ :: _, [], _, h => h.elim
end
def DeedsT (K : PySem.W.Frag) (H : Hp) (x : V) (ds : List Deed) : Prop := ∃ r xs, x = .ref r ∧ SqT K H r xs ∧ AllR (DeedAt K H) xs ds
theorem DeedAt.dat {K : PySem.W.Frag} {H : Hp} {x : V} {d : Deed} (h : DeedAt K H x d) : Dat K H x (deedD d) := by
  obtain ⟨r, rfl, h⟩ := h
  exact dat_deed h
theorem datR {α : Type} {K : PySem.W.Frag} {H : Hp} {R : V → α → Prop} {f : α → PyData} (h : ∀ x k, R x k → Dat K H x (f k)) : ∀ {xs : List V} {ks : List α}, AllR R xs ks → DatAll K H xs (ks.map f)
  | [], [], _ => .nil
  | _ :: _, _ :: _, ⟨a, t⟩ => .cons (h _ _ a) (datR h t)
  | [], _ :: _, h => h.elim
  | _ :: _, [], h => h.elim
theorem DeedsT.dat {K : PySem.W.Frag} {H : Hp} {x : V} {ds : List Deed} (h : DeedsT K H x ds) : Dat K H x (.tuple (ds.map deedD)) := by
  obtain ⟨r, xs, rfl, h1, h2⟩ := h
  exact .tup h1 (datR (fun _ _ z => z.dat) h2)
def look : Deed := ⟨0, none, none⟩
def AllOk (ds : List Deed) : Prop := ∀ d ∈ ds, d.Ok
def runD (ds : List Deed) : Deed := ds.foldl joinD look
end L3

namespace L3
open PySem PySem.Spec PyProof.Rows L2
theorem AllR.drop {α : Type} {R : V → α → Prop} : ∀ {xs : List V} {ks : List α} {n : Nat}, AllR R xs ks → AllR R (xs.drop n) (ks.drop n)
  | [], [], n, _ => by rw [List.drop_nil, List.drop_nil]; trivial
  | _ :: _, _ :: _, 0, h => h
  | _ :: _, _ :: _, n + 1, ⟨h, t⟩ => AllR.drop (n := n) t
  | [], _ :: _, _, h => h.elim
  | _ :: _, [], _, h => h.elim
end L3

namespace L3
open PySem PySem.Spec PyProof.Rows L2
theorem CSc.nest {X0 : Cx} {scope scope2 : Scope} {N' N2 : List Str} {sub sub2 : List (Option Nat)} {cl : List (Str × Addr)} {C D : Addr} {fp : List Addr} {s : Shared} {H : Hp} (S : CSc X0 scope N' sub) (hk0 : X0.env.scope.kind = .function)
    (h : ((scope2.names.all fun y => (y.2 != .free || scope.names.lookup y.1 == some .free) && (y.2 != .cell) && (y.2 != .local || scope2.names.lookup y.1 == some .local)) && (sub2.length == N2.length) &&
      ((N2.zip sub2).all fun p => match p.2 with | none => true | some i => N'[i]? == some p.1 && scope.names.lookup p.1 == some .free && scope2.names.lookup p.1 == some .free)) = true)
    (hk : scope2.kind = .function) : CSc (cxC X0 N' scope cl C D fp s H) scope2 N2 sub2 := by
  rw [Bool.and_eq_true, Bool.and_eq_true] at h
  obtain ⟨⟨h1, h2⟩, h3⟩ := h
  have k1 := fun y hy => List.all_eq_true.mp h1 y hy
  have cellOf : ∀ y : Str, scope.names.lookup y = some .free → (relabel scope X0.env).names.lookup y = some .cell := fun y hy => relabel_cell hk0 (S.free (y, .free) (PySem.mem_of_lookup hy) rfl) hy
  refine ⟨fun y hy hf => ?_, fun y hy hc => ?_, hk, fun y hy hl => ?_, by simpa using h2, fun j y i hj hs => ?_⟩
  · have := k1 y hy
    simp only [hf, Bool.and_eq_true] at this
    have z := this.1.1
    exact cellOf y.1 (by simpa using z)
  · have := k1 y hy
    simp only [hc, Bool.and_eq_true] at this
    simp at this
  · have := k1 y hy
    simp only [hl, Bool.and_eq_true] at this
    simpa using this.2
  · have hm : (y, some i) ∈ N2.zip sub2 := by
      have : (N2.zip sub2)[j]? = some (y, some i) := by
        rw [List.getElem?_zip_eq_some]; exact ⟨hj, hs⟩
      exact List.mem_of_getElem? this
    have := List.all_eq_true.mp h3 _ hm
    simp only [Bool.and_eq_true, beq_iff_eq] at this
    exact ⟨this.1.1, cellOf y this.1.2, this.2⟩
theorem call_tupleK {X : Cx} {K : PySem.W.Frag} (h : X.K = K) : CallR X (.type "tuple") (fun xs H Q => ∃ p ys, xs = [.ref p] ∧ ((SqL K H p ys ∧ ∀ l, H l = none → Q (.ref l) (upd H l (.tup ys))) ∨ (SqT K H p ys ∧ Q (.ref p) H))) := by subst h; exact call_tuple_of
def sp6 (b : V → V → V → V → V → V → Hp → VK → Prop) : Sp := fun vs H Q _ => ∃ x y z u w k, vs = [x, y, z, u, w, k] ∧ b x y z u w k H Q
theorem sp6_len {b : V → V → V → V → V → V → Hp → VK → Prop} {p q r s t u : Str} : ∀ vs H Q E, sp6 b vs H Q E → vs.length = [p, q, r, s, t, u].length := fun vs H Q E h => by
  obtain ⟨x, y, z, u, w, k, rfl, _⟩ := h; rfl
def RowsAt (K : PySem.W.Frag) (H : Hp) (x : V) (rows : List (List Int)) : Prop := ∃ r xs, x = .ref r ∧ SqT K H r xs ∧ AllR (BoardAt K H) xs rows
theorem Grow.boardsR {m : List Addr} {H H' : Hp} (g : Grow m H H') {K : PySem.W.Frag} {xs : List V} {rows : List (List Int)} (h : AllR (BoardAt K H) xs rows) : AllR (BoardAt K H') xs rows := h.imp fun _ _ z => g.board z
theorem Grow.rows {m : List Addr} {H H' : Hp} (g : Grow m H H') {K : PySem.W.Frag} {x : V} {rows : List (List Int)} (h : RowsAt K H x rows) : RowsAt K H' x rows := by
  obtain ⟨r, xs, e, h1, h2⟩ := h
  exact ⟨r, xs, e, g.sqT h1, g.boardsR h2⟩
def Rng (m : Int) (xs : List Int) : Prop := ∀ v ∈ xs, 0 ≤ v ∧ v < m
def TabOk (R M : Nat) (rows : List (List Int)) : Prop := rows.length = R ∧ ∀ row ∈ rows, row.length = M ∧ Rng M row
theorem getI {xs : List Int} {i : Int} (h0 : 0 ≤ i) (h : i < xs.length) : atI (xs.map V.int) i = some (V.int (xs.getD i.toNat 0)) := by
  have hj : i.toNat < xs.length := by omega
  exact ixGet (ixN_nat h0 (by rw [List.length_map]; exact hj)) (by rw [List.getElem?_map, getD_of hj]; rfl)
theorem getRow {K : PySem.W.Frag} {H : Hp} {xs : List V} {rows : List (List Int)} (h : AllR (BoardAt K H) xs rows) {i : Int} (h0 : 0 ≤ i) (h1 : i < rows.length) : ∃ a, atI xs i = some (V.ref a) ∧ SqT K H a ((rows.getD i.toNat []).map V.int) := by
  have hj : i.toNat < rows.length := by omega
  have e : rows[i.toNat]? = some (rows.getD i.toNat []) := by rw [List.getD_eq_getElem?_getD, List.getElem?_eq_getElem hj]; rfl
  obtain ⟨x, hx, a, rfl, hs⟩ := h.getR e
  exact ⟨a, ixGet (ixN_nat h0 (by rw [h.len]; exact hj)) hx, hs⟩
structure Fd (R : Nat) (tab : List (List Int)) (ns : List Int) : Prop where
  tab : TabOk R R tab
  ns : Rng R ns
end L3

namespace L3
open PySem PySem.Spec PyProof.Rows L2
section
variable {prog : Program} {w : World} {A : Around} {E : Value → Shared → Prop} {s : Shared}
theorem nx_tup_item {jt t : Addr} {i : Nat} {vs : Array Value} {v : Value} {Q : Value → Shared → Prop} (hit : s.heap.IsTupleIter jt t i) (ht : s.heap.IsTuple t vs) (hv : vs[i]? = some v)
    (hQ : ∀ h', h'.IsTupleIter jt t (i + 1) → Heap.SameBut jt s.heap h' → Q v { s with heap := h' }) : wpAny (model prog w) A (Builtin.SmallTypes.nextOf (.ref jt)) Q E s := by
  obtain ⟨oj, hoj, cj, dj⟩ := id hit
  obtain ⟨ot, hot, _, nt, dt⟩ := ht
  unfold Builtin.SmallTypes.nextOf
  refine wpAny_bind (wpAny_callSpecial?_slot (name := Str.ofString "__next__") hit.typeIs F.slot_tuple_iterator_next (wpAny_call_entry F.slot_tuple_iterator_next hit.typeIs F.entry_tuple_iterator_next ?_ (F.args_tuple_iterator_next_1 _)))
  show wpAny _ _ (field (.ref jt) 0 >>= _) _ _ s
  refine wpAny_bind (wpAny_field hoj dj (x := .ref t) rfl ?_); show wpAny _ _ (if (Value.ref t == Value.none) = true then _ else _) _ _ s
  rw [if_neg (show ¬ ((Value.ref t == Value.none) = true) by exact Bool.false_ne_true)]; show wpAny _ _ (field (.ref jt) 1 >>= _) _ _ s
  refine wpAny_bind (wpAny_field hoj dj (x := .int i 0) rfl ?_); show wpAny _ _ (seqItems? (.ref t) >>= _) _ _ s
  refine wpAny_bind (wpAny_seqItems hot dt ?_); simp only [Int.toNat_natCast, hv]
  refine wpAny_bind (wpAny_setField hoj dj (by simp) (wpAny_pure ⟨v, rfl, wpAny_pure (hQ _ ⟨_, Heap.get?_update_self _ hoj (Obj.isFreed_of_fields (Obj.data_mapFields dj _)), (Obj.cls_mapFields ..).trans cj, by rw [Obj.data_mapFields dj]; simp [rawInt]⟩ (Heap.SameBut.update ..))⟩))
theorem nx_tup_end {jt t : Addr} {i : Nat} {vs : Array Value} {Q : Value → Shared → Prop} (hh : A.handled = none) (hit : s.heap.IsTupleIter jt t i) (ht : s.heap.IsTuple t vs) (hv : vs[i]? = none)
    (hE : ∀ h' e, Heap.ExtBut jt s.heap h' → (∃ o, h'.get? e = some o ∧ o.cls = .type "StopIteration") → E (.ref e) { s with heap := h' }) : wpAny (model prog w) A (Builtin.SmallTypes.nextOf (.ref jt)) Q E s := by
  obtain ⟨oj, hoj, cj, dj⟩ := id hit
  obtain ⟨ot, hot, _, nt, dt⟩ := ht
  unfold Builtin.SmallTypes.nextOf
  refine wpAny_bind (wpAny_callSpecial?_slot (name := Str.ofString "__next__") hit.typeIs F.slot_tuple_iterator_next (wpAny_call_entry F.slot_tuple_iterator_next hit.typeIs F.entry_tuple_iterator_next ?_ (F.args_tuple_iterator_next_1 _)))
  show wpAny _ _ (field (.ref jt) 0 >>= _) _ _ s
  refine wpAny_bind (wpAny_field hoj dj (x := .ref t) rfl ?_); show wpAny _ _ (if (Value.ref t == Value.none) = true then _ else _) _ _ s
  rw [if_neg (show ¬ ((Value.ref t == Value.none) = true) by exact Bool.false_ne_true)]; show wpAny _ _ (field (.ref jt) 1 >>= _) _ _ s
  refine wpAny_bind (wpAny_field hoj dj (x := .int i 0) rfl ?_); show wpAny _ _ (seqItems? (.ref t) >>= _) _ _ s
  refine wpAny_bind (wpAny_seqItems hot dt ?_); simp only [Int.toNat_natCast, hv]
  refine wpAny_bind (wpAny_rule (wpAny_bind (wpAny_setField hoj dj (by simp) ?_))); show wpAny _ _ (newExc (.type "StopIteration") [] >>= _) _ _ _
  refine wpAny_bind ?_; simp only [newExc, newTuple]
  refine wpAny_bind (wpAny_newObj_type ?_ (by size_fits)); refine wpAny_bind (m := firstArgMember _ _) (wpAny_of_eq (a := Value.none) (by first | rfl | (simp only [firstArgMember]; rfl)) ?_)
  refine wpAny_newObj_type ?_ (by size_fits); simp only [raiseNew]
  refine wpAny_bind (wpAny_handled ?_); (first | rw [show A.in1.handled = none from hh] | rw [hh])
  exact wpAny_bind (wpAny_pure (wpAny_throw (hE _ _ (((Heap.SameBut.update ..).extBut.push _).push _) ⟨_, Heap.get?_push_size _ rfl, rfl⟩)))
end
theorem draws_tup {prog : Program} {w : World} {A : Around} (hh : A.handled = none) (jt t : Addr) (hne : t ≠ jt) (vs : Array Value) :
    Draws prog w A jt [jt, t] vs.size (fun i v => vs[i]? = some v) (fun i h => h.IsTupleIter jt t i ∧ h.IsTuple t vs) where
  live := fun _ _ st => let ⟨o, ho, _⟩ := st.1; ⟨o, ho⟩
  frame := fun _ _ _ st hk => ⟨st.1.at (hk jt (by simp)), st.2.at (hk t (by simp))⟩
  item := fun i s Q E hi st hQ => nx_tup_item st.1 st.2 (v := vs[i]) (by simp [hi]) fun h' hit' hs' => hQ _ h' s.toks (by simp [hi]) ⟨hit', st.2.extBut hs'.extBut hne⟩ hs'
  done := fun s Q E st hE => nx_tup_end hh st.1 st.2 (by simp) hE
theorem draws_end {prog : Program} {w : World} {A : Around} (hh : A.handled = none) (jt t : Addr) (vs : Array Value) {i : Nat} (hv : vs[i]? = none) :
    Draws prog w A jt [jt, t] i (fun _ _ => True) (fun j h => j = i ∧ h.IsTupleIter jt t i ∧ h.IsTuple t vs) where
  live := fun _ _ st => let ⟨o, ho, _⟩ := st.2.1; ⟨o, ho⟩
  frame := fun _ _ _ st hk => ⟨st.1, st.2.1.at (hk jt (by simp)), st.2.2.at (hk t (by simp))⟩
  item := fun j s Q E hj st hQ => absurd st.1 (Nat.ne_of_lt hj)
  done := fun s Q E st hE => nx_tup_end hh st.2.1 st.2.2 hv hE
section
variable {prog : Program} {w : World} {A : Around} {E : Value → Shared → Prop} {s : Shared}
open AutoSeq1 (wpAny_loadPart')
end
section
variable {X : Cx} {pins : List (Addr × Obj)} {σ : L2.St} {H : Hp} {s : Shared} {h' : Heap}
theorem turnedL {fp : List Addr} {t' : Nat} (I : Inv X pins σ H s) (k : ∀ b o, b ∉ fp → s.heap.get? b = some o → h'.get? b = some o) (ff : ∀ b ∈ fp, FpOk X pins H b) : Inv X pins σ H { s with heap := h', toks := t' } := by
  have nit : ∀ b u, H b = some u → b ∉ fp := fun b u e z => by rw [(ff b z).1] at e; cases e
  refine I.step (g' := s.gens) (d' := s.drawn) (ch := fp) (fun b hb => ?_) (fun b o _ _ hc e _ => k b o hc e) (fun b o _ _ hc e _ => ⟨o.slots, k b o hc e⟩) (fun _ _ _ _ n => n) (fun b o hc e => ⟨o, k b o hc e⟩) (fun _ _ e => e) (fun _ _ _ e => e) (fun b ps e => ⟨#[], by rw [e]; simp⟩) (fun m hm => ?_) (fun b u e => ?_) I.bare
  · obtain ⟨_, f1, _, f3, f4, f5⟩ := ff b hb
    exact ⟨f3, f1, f4, f5⟩
  · obtain ⟨o, es, ep, ho, r⟩ := hm
    exact ⟨o, es, ep, k _ o (fun z => (ff _ z).2.1 rfl) ho, r⟩
  · refine (I.hok b u e).stay (fun c v hc q => k c v ?_ q) (fun _ q => q) fun _ _ q => q
    rcases hc with z | z
    · rw [z]; exact nit b u e
    · exact nit c _ z
theorem turnLaid {fp : List Addr} {T : Addr} {o : HO} {t' : Nat} (I : Inv X pins σ H s) (k : ∀ b o, b ∉ fp → s.heap.get? b = some o → h'.get? b = some o) (ff : ∀ b ∈ fp, FpOk X pins H b) (hT : s.heap.objs.size ≤ T)
    (new : ObjOk X.prog X.w (upd H T o) h' T o) : Inv X pins σ (upd H T o) { s with heap := h', toks := t' } := by
  have hn : H T = none := I.hok.fresh hT
  have I1 : Inv X pins σ H { s with heap := h', toks := t' } := turnedL I k ff
  have hok : HOk X.prog X.w (upd H T o) h' := HOk.track I1.hok hn new
  refine I.step (g' := s.gens) (d' := s.drawn) (ch := fp) (fun b hb => ?_) (fun b o _ _ hc e _ => k b o hc e) (fun b o _ _ hc e _ => ⟨o.slots, k b o hc e⟩) (fun b u _ e n => by rw [upd_ne (Nat.ne_of_lt (Nat.lt_of_lt_of_le (Heap.lt_size e) hT))]; exact n) (fun b o hc e => ⟨o, k b o hc e⟩)
    (fun b xs e => by rw [upd_ne (ne_of_none e hn)]; exact e) (fun b u xs e => by rw [upd_ne (ne_of_none e hn)]; exact e) (fun b ps e => ⟨#[], by rw [upd_ne (ne_of_none e hn), e]; simp⟩) (fun m hm => ?_) hok I.bare
  · obtain ⟨_, f1, _, f3, f4, f5⟩ := ff b hb
    exact ⟨f3, f1, f4, f5⟩
  · obtain ⟨o, es, ep, ho, r⟩ := hm
    exact ⟨o, es, ep, k _ o (fun z => (ff _ z).2.1 rfl) ho, r⟩
end
section
variable {X : Cx} {elts : List Expr} {kt : Nat} {pt : Pos}
theorem b_enum : bootBuiltins "enumerate" = some (.type "enumerate") := by decide +kernel
end
end L3

namespace L3
open PySem PySem.Spec PyProof.Rows L2
theorem getDd {ds : List Deed} {i : Nat} (h : i < ds.length) : ds[i]? = some (ds.getD i look) := by
  rw [List.getD_eq_getElem?_getD, List.getElem?_eq_getElem h]; rfl
def atBox (j : Int) (ks : List Ask) : List Deed := (ks.filter fun k => decide (k.box = j)).map Ask.deed
structure GInv (b : List Int) (ks : List Ask) (g : List Deed × List Deed) (p : List Int × List Int) : Prop where
  l1 : g.1.length = b.length
  l2 : g.2.length = ks.length
  p1 : p.1.length = ks.length
  p2 : p.2.length = b.length
  bd1 : ∀ d ∈ g.1, d.Ok ∧ d.Bd (ks.length * 10 ^ 30)
  bd2 : ∀ d ∈ g.2, d.Ok ∧ d.Bd (ks.length * 10 ^ 30)
  run : ∀ j : Nat, j < b.length → g.1.getD j look = runD (atBox j ks)
  val : ∀ j : Nat, j < b.length → p.2.getD j 0 = (g.1.getD j look).mk' (b.getD j 0)
  ans : ∀ i k, ks[i]? = some k → p.1.getD i 0 = (g.2.getD i look).mk' (b.getD k.box.toNat 0)
theorem AllR.set {α : Type} {R : V → α → Prop} {x : V} {k : α} (h : R x k) : ∀ {xs : List V} {ks : List α} {n : Nat}, AllR R xs ks → AllR R (xs.set n x) (ks.set n k)
  | [], [], n, _ => by cases n <;> trivial
  | _ :: _, _ :: _, 0, ⟨_, t⟩ => ⟨h, t⟩
  | _ :: _, _ :: _, n + 1, ⟨a, t⟩ => ⟨a, AllR.set h t⟩
  | [], _ :: _, _, z => z.elim
  | _ :: _, [], _, z => z.elim
def GathAt (K : PySem.W.Frag) (H : Hp) (x : V) (g : List Deed × List Deed) : Prop := ∃ r r1 r2, x = .ref r ∧ SqT K H r [.ref r1, .ref r2] ∧ DeedsT K H (.ref r1) g.1 ∧ DeedsT K H (.ref r2) g.2
section
variable {K : PySem.W.Frag} {a : Addr} {xs : List V} {k : Nat} {tt : TT} {te : TE} {Q : VK} {σ : L2.St} {H : Hp}
end
section
variable {K : PySem.W.Frag} {a : Addr} {xs : List V} {k : Nat} {tt : TT} {te : TE} {Q : VK} {σ : L2.St} {H : Hp}
end
end L3

namespace L3
open PySem PySem.Spec PyProof.Rows L2
def figI (k st l : Int) : Int := Builtin.bitAnd (l / 2 ^ (k - st).toNat) 1
def wfI (k st l w : Int) : Int := Builtin.bitXor l (Builtin.bitXor (figI k st l) w * 2 ^ (k - st).toNat)
def swI (k st l : Int) : Int := Builtin.bitOr (l / 2 ^ (k - st + 1).toNat * 2 ^ (k - st).toNat) (Builtin.bitAnd l (1 * 2 ^ (k - st).toNat - 1))
def figsL (k n : Int) : List Int := (List.range k.toNat).map fun i : Nat => Builtin.bitAnd (n / 2 ^ (k - 1 - (0 + (i : Int))).toNat) 1
def numL (xs : List Int) : Int := xs.foldl (fun f o => 2 * f + o) 0
def lineL (k h g : Int) (n : Nat) : Int := numL ((figsL k g).take n ++ (figsL k h).drop n)
def numsL (k l : Int) (st : Nat) : Int := numL ((figsL k l).take (st - 1) ++ (figsL k l).drop st)
theorem fig_facts : ∀ k : Fin 5, ∀ st : Fin 5, st.val ≤ k.val → ∀ l : Fin 16, (figI k.val st.val l.val = 0 ∨ figI k.val st.val l.val = 1) ∧ ∀ w : Fin 2, (Builtin.bitXor (figI k.val st.val l.val) w.val).natAbs < 2 := by
  decide +kernel
end L3

namespace L3
open PySem PySem.Spec PyProof.Rows L2
section
variable {X : Cx}
theorem call_isiK {K : PySem.W.Frag} (h : X.K = K) : CallR X (.builtin "isinstance") (rIsi K) := by subst h; exact call_isi
end
theorem mulOkL {i j : Int} (h : -(2 ^ 60) < i ∧ i < 2 ^ 60) : IntMulOk i j := PySem.IntMulOk.of_left (Nat.le_trans ((PySem.intBits_le_iff (m := 60)).mpr (by obtain ⟨a, b⟩ := h; omega)) (by decide))
theorem shlOne {k : Nat} (h : k ≤ 4) : CPow 1 (k : Int) := ⟨by omega, by omega, by decide⟩
theorem pow16 {k : Nat} (h : k ≤ 4) : (2 : Nat) ^ k ≤ 16 := Nat.le_trans (Nat.pow_le_pow_right (by decide) h) (by decide)
theorem one_shl {k : Nat} : (1 : Int) * 2 ^ ((k : Int)).toNat = ((2 ^ k : Nat) : Int) := by rw [Int.toNat_natCast, Int.one_mul, Int.natCast_pow]; rfl
theorem figF {k st : Nat} {l : Int} (k4 : k ≤ 4) (hs : st ≤ k) (l0 : 0 ≤ l) (l1 : l < 16) : (figI k st l = 0 ∨ figI k st l = 1) ∧ ∀ w : Int, w = 0 ∨ w = 1 → (Builtin.bitXor (figI k st l) w).natAbs < 2 ^ 64 := by
  obtain ⟨n, rfl⟩ : ∃ n : Nat, l = n := ⟨l.toNat, by omega⟩
  have z := fig_facts ⟨k, by omega⟩ ⟨st, by omega⟩ hs ⟨n, by omega⟩
  refine ⟨z.1, fun w hw => ?_⟩
  rcases hw with rfl | rfl
  · exact Nat.lt_trans (z.2 0) (by decide)
  · exact Nat.lt_trans (z.2 1) (by decide)
def sp_is_line (_ : PySem.W.Frag) : Sp := sp2 fun x y H Q => ∃ k l : Nat, x = .int k ∧ y = .int l ∧ k ≤ 4 ∧ l < 2 ^ k ∧ Q (.bl true) H
def sp_need_net (_ : PySem.W.Frag) : Sp := sp1 fun x H Q => ∃ k : Nat, x = .int k ∧ k ≤ 4 ∧ Q .non H
def sp_figure (_ : PySem.W.Frag) : Sp := sp3 fun x y z H Q => ∃ (k st : Nat) (l : Int), x = .int k ∧ y = .int st ∧ z = .int l ∧ st ≤ k ∧ Q (.int (figI k st l)) H
def sp_with_figure (_ : PySem.W.Frag) : Sp := sp4 fun x y z u H Q => ∃ (k st : Nat) (l w : Int), x = .int k ∧ y = .int st ∧ z = .int l ∧ u = .int w ∧ k ≤ 4 ∧ st ≤ k ∧ 0 ≤ l ∧ l < 16 ∧ (w = 0 ∨ w = 1) ∧ Q (.int (wfI k st l w)) H
def sp_onward (_ : PySem.W.Frag) : Sp := sp4 fun x y z u H Q => ∃ (k st : Nat) (l s : Int), x = .int k ∧ y = .int st ∧ z = .int l ∧ u = .int s ∧ k ≤ 4 ∧ st ≤ k ∧ 0 ≤ l ∧ l < 16 ∧ 0 ≤ s ∧ s < 16 ∧ Q (.int (wfI k st l (figI k st s))) H
def sp_switch_at (_ : PySem.W.Frag) : Sp := sp3 fun x y z H Q => ∃ (k st : Nat) (l : Int), x = .int k ∧ y = .int st ∧ z = .int l ∧ k ≤ 4 ∧ st ≤ k ∧ 0 ≤ l ∧ l < 16 ∧ Q (.int (swI k st l)) H
end L3

namespace L3
open PySem PySem.Spec PyProof.Rows L2
section
variable {prog : Program} {w : World} {A : Around} {R : Result → Shared → Prop} {s : Shared}
variable {elt t0 i0 t1 i1 : Expr} {ifs : List Expr} {scope : Scope} {pos : Pos} {it acc : Value} {env : Env}
end
section
variable {Y : Cx} {pins : List (Addr × Obj)} {D it2 : Addr} {fp2 : List Addr} {tn2 : Nat → Heap → Prop} {J2 : It} {y : Str} {py pos : Pos} {elt t0 i0 i1 : Expr} {ifs : List Expr} {scope : Scope} {g1 : TG} {tt : TT} {te : TE} {Out : List V → L2.St → Hp → Prop} {W : Nat → Nat → List V → L2.St → Hp → Prop} {R : Result → Shared → Prop}
end
section
variable {X : Cx} {pins : List (Addr × Obj)} {σ : L2.St} {H2 : Hp} {s₂ : Shared} {it : Addr} {fp : List Addr} {tn : Nat → Heap → Prop} {J : It} {scope : Scope} {cl : List (Str × Addr)} {N' : List Str} {sub : List (Option Nat)}
end
end L3

namespace L3
open PySem PySem.Spec PyProof.Rows L2
section
variable {X : Cx} {pins : List (Addr × Obj)} {σ : L2.St} {H2 : Hp} {s₂ : Shared} {it : Addr} {fp : List Addr} {tn : Nat → Heap → Prop} {J : It} {scope : Scope} {cl : List (Str × Addr)} {N' : List Str} {sub : List (Option Nat)}
end
section
variable {X : Cx} {scope : Scope} {N' : List Str} {sub : List (Option Nat)} {x y : Str} {px py pos : Pos} {elt i0 i1 : Expr} {ifs : List Expr} {wi wi1 : TI} {g0 g1 : TG} {tt : TT} {te : TE}
end
end L3

namespace L3
open PySem PySem.Spec PyProof.Rows L2
section
variable {X : Cx}
end
end L3

namespace L3
open PySem PySem.Spec PyProof.Rows L2
theorem Deed.Sm.bd2 {d : Deed} (h : d.Sm) : d.Bd (2 * 10 ^ 30) := h.bd.mono (by decide)
end L3

namespace L3
open PySem PySem.Spec PyProof.Rows L2
section
variable {X : Cx} {pins : List (Addr × Obj)} {σ : L2.St} {H2 : Hp} {s₂ : Shared} {it : Addr} {fp : List Addr} {tn : Nat → Heap → Prop} {J : It} {scope : Scope} {cl : List (Str × Addr)} {N' : List Str} {sub : List (Option Nat)}
theorem comp_runT {C D : Addr} {s₀ : Shared} {tg : Expr} {pos : Pos} {elt iter : Expr} {ifs : List Expr} {g : TG} {tt : TT} {te : TE} {Q : VK} {RR : Value → Addr → Result → Shared → Prop} {W : Nat → Nat → List V → L2.St → Hp → Prop}
    (I : Inv X pins σ H2 s₂) (hcalm : X.calm = true) (T : Turn X.prog X.w X.K tg J fp it tn) (f2 : ∀ b ∈ fp, FpOk X pins H2 b) (hfp : ∀ b ∈ fp, b < s₂.heap.objs.size)
    (hs₀ : ∀ b o, s₂.heap.get? b = some o → s₀.heap.get? b = some o) (hos : s₀.os = s₂.os) (hD : s₂.heap.objs.size ≤ D) (hC : s₂.heap.objs.size ≤ C) (hDC : D ≠ C)
    (hcl1 : ∀ x c, cl.lookup x = some c → X.env.cells.lookup x = some c)
    (hg : PG (cxC X N' scope cl C D fp s₀ H2) tg g) (ht : PIfs (cxC X N' scope cl C D fp s₀ H2) ifs tt) (he : PE (cxC X N' scope cl C D fp s₀ H2) elt te)
    (turn : ∀ i m ys σ' H', W i m ys σ' H' →
      (J.stop i H' ∧ ∀ l, H' l = none → Q (.ref l) (upd H' l (.lst ys))) ∨
      (J.go i H' ∧ ∃ Nn : List V → L2.St → Hp → Prop, (∀ zs σ2 H2, Nn zs σ2 H2 → ∃ m', m' < m ∧ W (i + 1) m' zs σ2 H2) ∧
        ∀ x H2, J.yld i H' x H2 → g x σ' H2 fun σ2 H3 => tt σ2 H3 fun b H4 => if b = true then te σ2 H4 fun y H5 => ys.length < sizeLine ∧ Nn (ys ++ [y]) σ2 H5 else Nn ys σ2 H4))
    (hRR : ∀ (D C : Addr) (oC : Obj) (m : Str → Option Value) (s' : Shared) (Hf : Hp), Inv X (pins ++ [(C, oC)]) σ Hf s' → s'.heap.Ns C m → FpOk X pins Hf C → Q (.ref D) Hf → RR (.ref D) C (.ok .next) s')
    (n : Nat) (s : Shared) (h : ∃ i ys us k σ' H', Inv (cxC X N' scope cl C D fp s₀ H2) pins σ' H' s ∧ tn i s.heap ∧ (∀ b ∈ fp, H' b = none) ∧ H' D = none ∧
      s.heap.get? D = some { cls := .type "list", data := .seq (us : List Value).toArray k } ∧ Vals ys us ∧ ys.length ≤ sizeLine ∧ W i n ys σ' H') :
    codeAny (model X.prog X.w) X.A (.compLoop (.ListComp elt [⟨tg, iter, ifs, 0⟩] scope pos) 0 (.ref it) (.ref D) (compEnvC scope cl C X.env)) (RR (.ref D) C) s := by
  have frsz : ∀ b ∈ frs X.stack, b < s₂.heap.objs.size := fun b hb => by
    rcases List.mem_cons.mp (I.stkSub b hb) with z | z
    · rw [z]; exact I.lt
    · exact Nat.lt_of_not_le fun q => I.nofs q z
  have cells : ∀ x c, cl.lookup x = some c → c < s₂.heap.objs.size := fun x c e => let ⟨v, q⟩ := I.cell x c (hcl1 x c e); q.lt
  have pinsz : ∀ p ∈ X.pn ++ pins, p.1 < s₂.heap.objs.size := fun p hp => Heap.lt_size (I.pin p hp).1
  refine comp_loop (fun n s => ∃ i ys us k σ' H', Inv (cxC X N' scope cl C D fp s₀ H2) pins σ' H' s ∧ tn i s.heap ∧ (∀ b ∈ fp, H' b = none) ∧ H' D = none ∧
      s.heap.get? D = some { cls := .type "list", data := .seq (us : List Value).toArray k } ∧ Vals ys us ∧ ys.length ≤ sizeLine ∧ W i n ys σ' H') ?_ n h
  rintro n s ⟨i, ys, us, k, σ', H', I', st', fr, hn, hy, rv, hz, w'⟩
  have pD : Inv (cxC X N' scope cl C D fp s₀ H2) (pins ++ [(D, { cls := .type "list", data := .seq us.toArray k })]) σ' H' s := I'.pins_of fun p hp => by
    rcases List.mem_append.mp hp with hp | hp
    · exact I'.pin p (List.mem_append_right _ hp)
    · rw [List.mem_singleton.mp hp]
      exact ⟨hy, hn, hDC, fun z => absurd (Nat.lt_of_lt_of_le (frsz _ z) hD) (Nat.lt_irrefl _), fun v z => by cases z⟩
  have fpok : ∀ {H'' : Hp}, (∀ b ∈ fp, H'' b = none) → ∀ b ∈ fp, FpOk (cxC X N' scope cl C D fp s₀ H2) (pins ++ [(D, { cls := .type "list", data := .seq us.toArray k })]) H'' b := fun hz b hb => by
    refine ⟨hz b hb, Nat.ne_of_lt (Nat.lt_of_lt_of_le (hfp b hb) hC), fun z => ?_, .inl (List.mem_cons_of_mem _ hb), fun x c e => (f2 b hb).2.2.2.2.1 x c (hcl1 x c e), fun p hp => ?_⟩
    · rcases List.mem_cons.mp (I.stkSub b z) with z | z
      · exact (f2 b hb).2.1 z
      · exact (f2 b hb).2.2.1 z
    · rcases List.mem_append.mp hp with hp | hp
      · exact (f2 b hb).2.2.2.2.2 p (List.mem_append_left _ hp)
      · rcases List.mem_append.mp hp with hp | hp
        · exact (f2 b hb).2.2.2.2.2 p (List.mem_append_right _ hp)
        · rw [List.mem_singleton.mp hp]
          exact Nat.ne_of_gt (Nat.lt_of_lt_of_le (hfp b hb) hD)
  rcases turn i n ys σ' H' w' with ⟨stop, q⟩ | ⟨go, Nn, hN, step⟩
  · refine thn (T.done (cxC X N' scope cl C D fp s₀ H2) rfl rfl rfl hcalm i _ s σ' H' (fun _ _ => False) pD (fpok fr) st' stop) fun r s1 ⟨hr, I1⟩ => ?_
    subst hr
    have hy1 := (I1.pin (D, { cls := .type "list", data := .seq us.toArray k }) (by simp)).1
    obtain ⟨m, hm, _⟩ := I1.loc
    obtain ⟨oC, es, ep, hoC, hdC, _⟩ := id hm
    obtain ⟨IX, fpc⟩ := comp_fin I hs₀ hos hD hC hDC f2 I1.unpinned hn hy1 rv hz hoC (by intro v z; rw [hdC] at z; cases z)
    exact hRR D C oC m s1 _ IX hm fpc (q D hn)
  · refine thn (T.item (cxC X N' scope cl C D fp s₀ H2) rfl rfl rfl hcalm i _ s σ' H' (fun _ _ => False) pD (fpok fr) st' go) fun r s1 ⟨u, hr, h4⟩ => ?_
    subst hr
    refine thn h4 fun _ s2 ⟨x5, H5, I5, r5, y5, st5, fr5⟩ => ?_
    have I5' := I5.pinned (fpok fr5) (T.obj _ _ st5)
    refine thn (hg _ s2 σ' H5 x5 u _ I5' r5 (step x5 H5 y5)) fun _ s3 ⟨σ6, H6, I6, q6⟩ => ?_
    refine thn (ht _ s3 σ6 H6 _ I6 q6) fun ok s4 ⟨H7, I7, q7⟩ => ?_
    have stay : ∀ {σ7 : L2.St} {H7 : Hp} {s7 : Shared}, Inv (cxC X N' scope cl C D fp s₀ H2) (pins ++ [(D, { cls := .type "list", data := .seq us.toArray k })] ++ pinsAt fp s2.heap) σ7 H7 s7 →
        (∀ b ∈ fp, ∀ o, s2.heap.get? b = some o → s7.heap.get? b = some o) ∧ (∀ b ∈ fp, H7 b = none) ∧ H7 D = none ∧ s7.heap.get? D = some { cls := .type "list", data := .seq us.toArray k } := fun {σ7 H7 s7} I7 => by
      have d := I7.pin (D, { cls := .type "list", data := .seq us.toArray k }) (by simp)
      refine ⟨fun b hb o e => (I7.pin (b, o) (List.mem_append_right _ (List.mem_append_right _ (mem_pinsAt hb e)))).1, fun b hb => ?_, d.2.1, d.1⟩
      obtain ⟨o, e, _⟩ := T.obj _ _ st5 b hb
      exact (I7.pin (b, o) (List.mem_append_right _ (List.mem_append_right _ (mem_pinsAt hb e)))).2.1
    cases ok with
    | false =>
      rw [if_neg (by decide)] at q7 ⊢
      obtain ⟨k1, k2, k3, k4⟩ := stay I7
      obtain ⟨m', hm, w7⟩ := hN ys σ6 H7 q7
      exact ⟨m', hm, i + 1, ys, us, k, σ6, H7, I7.unpinned.unpinned, T.keep _ _ _ st5 k1, k2, k3, k4, rv, hz, w7⟩
    | true =>
      rw [if_pos rfl] at q7 ⊢
      refine thn (he _ s4 σ6 H7 _ I7 q7) fun v s5 ⟨y, H8, I8, r8, hl8, n8⟩ => ?_
      obtain ⟨k1, k2, k3, k4⟩ := stay I8
      refine wpAny_list_append_plain (l := D) ⟨k, k4⟩ (fun h' pl sb => ?_) (by rw [List.size_toArray, ← rv.length]; exact hz)
      obtain ⟨k', e'⟩ := pl
      obtain ⟨m', hm, w8⟩ := hN _ σ6 H8 n8
      refine ⟨m', hm, i + 1, ys ++ [y], us ++ [v], k', σ6, H8, ?_, T.keep _ _ _ (T.keep _ _ _ st5 k1) fun b hb o e => sb.extBut b o (Nat.ne_of_lt (Nat.lt_of_lt_of_le (hfp b hb) hD)) e, k2, k3, ?_, rv.append (.cons r8 .nil), ?_, w8⟩
      · exact (I8.unpinned.unpinned).turned (it := D) (t' := s5.toks) (h' := h') (fun b o hb e => sb.extBut b o hb e) k3 hDC (.inl (by simp)) (fun x c e => Nat.ne_of_lt (Nat.lt_of_lt_of_le (cells x c e) hD)) (fun p hp => Nat.ne_of_lt (Nat.lt_of_lt_of_le (pinsz p hp) hD))
      · rw [e']; simp
      · rw [List.length_append]; exact hl8
theorem comp_blockT {tg : Expr} {pos : Pos} {elt iter : Expr} {ifs : List Expr} {g : TG} {tt : TT} {te : TE} {E : Value → Shared → Prop} {Q : VK} {RR : Value → Addr → Result → Shared → Prop}
    (I : Inv X pins σ H2 s₂) (hcalm : X.calm = true) (T : Turn X.prog X.w X.K tg J fp it tn) (st : tn 0 s₂.heap) (f2 : ∀ b ∈ fp, FpOk X pins H2 b)
    (S : CSc X scope N' sub) (hcl1 : ∀ x c, cl.lookup x = some c → X.env.cells.lookup x = some c) (hcl2 : ∀ y ∈ scope.names, y.2 = .free → ∃ c, cl.lookup y.1 = some c)
    (hg : ∀ C D fp s H, PG (cxC X N' scope cl C D fp s H) tg g) (ht : ∀ C D fp s H, PIfs (cxC X N' scope cl C D fp s H) ifs tt) (he : ∀ C D fp s H, PE (cxC X N' scope cl C D fp s H) elt te)
    (hW : CompW J (capt sub σ) H2 g tt te Q)
    (hRR : ∀ (D C : Addr) (oC : Obj) (m : Str → Option Value) (s' : Shared) (Hf : Hp), Inv X (pins ++ [(C, oC)]) σ Hf s' → s'.heap.Ns C m → FpOk X pins Hf C → Q (.ref D) Hf → RR (.ref D) C (.ok .next) s') :
    wpAny (model X.prog X.w) X.A (newList []) (fun acc s₃ => wpAny (model X.prog X.w) X.A (newFunctionEnv scope X.env.globals cl [] X.env.qual none .none (some X.env)) (fun cenv s₄ =>
      codeAny (model X.prog X.w) X.A (.compStart (.ListComp elt [⟨tg, iter, ifs, 0⟩] scope pos) 0 (.ref it) acc { cenv with scope := relabel scope X.env }) (RR acc cenv.locals) s₄) E s₃) E s₂ := by
  obtain ⟨W, ⟨m0, w0⟩, turn⟩ := hW
  refine wpAny_newObj_type (wpAny_newFunctionEnv S.nocell (by intro y hy; simp at hy) (fun h₁ hns₁ hsb₁ => ?_) S.kind)
  dsimp only at hns₁ hsb₁ ⊢
  have hC : (s₂.heap.push { cls := .type "list", dict := none, data := .seq ([] : List Value).toArray }).objs.size = s₂.heap.objs.size + 1 := Heap.size_push ..
  rw [hC] at hns₁ hsb₁ ⊢
  have hk : ∀ b o, (s₂.heap.push { cls := .type "list", dict := none, data := .seq ([] : List Value).toArray }).get? b = some o → h₁.get? b = some o := fun b o e =>
    hsb₁.extBut b o (by have := Heap.lt_size e; rw [hC] at this; exact Nat.ne_of_lt this) (Heap.get?_push_of_some _ e)
  have hfp : ∀ b ∈ fp, b < s₂.heap.objs.size := fun b hb => by
    obtain ⟨o, e, _⟩ := T.obj _ _ st b hb
    exact Heap.lt_size e
  have I0 := comp_start (tk := s₂.toks + ([] : List (Str × Value)).length) I S hcl1 hcl2 f2 hfp hns₁ hk
  have hD0 : h₁.get? s₂.heap.objs.size = some { cls := .type "list", data := .seq ([] : List Value).toArray 0 } := hk _ _ (Heap.get?_push_size _ rfl)
  have loop : codeAny (model X.prog X.w) X.A (.compLoop (.ListComp elt [⟨tg, iter, ifs, 0⟩] scope pos) 0 (.ref it) (.ref s₂.heap.objs.size) (compEnvC scope cl (s₂.heap.objs.size + 1) X.env)) (RR (.ref s₂.heap.objs.size) (s₂.heap.objs.size + 1)) { s₂ with heap := h₁, toks := s₂.toks + ([] : List (Str × Value)).length } :=
    comp_runT (s₀ := { s₂ with heap := s₂.heap.push { cls := .type "list", dict := none, data := .seq ([] : List Value).toArray } }) (C := s₂.heap.objs.size + 1) (D := s₂.heap.objs.size) I hcalm T f2 hfp (fun b o e => Heap.get?_push_of_some _ e) rfl (Nat.le_refl _) (Nat.le_succ _) (Nat.ne_of_lt (Nat.lt_succ_self _)) hcl1 (hg _ _ _ _ _) (ht _ _ _ _ _) (he _ _ _ _ _) turn hRR m0 _
      ⟨0, [], [], 0, capt sub σ, H2, I0, T.keep _ _ _ st fun b hb o e => hk b o (Heap.get?_push_of_some _ e), fun b hb => (f2 b hb).1, I.hok.fresh (Nat.le_refl _), hD0, .nil, Nat.zero_le _, w0⟩
  exact codeAny_compStart_list loop (T.self _ _ _ _ _ (T.keep _ _ _ st fun b hb o e => hk b o (Heap.get?_push_of_some _ e)) loop)
end
section
variable {X : Cx} {scope : Scope} {N' : List Str} {sub : List (Option Nat)} {tg : Expr} {pos : Pos} {elt iter : Expr} {ifs : List Expr} {wi : TI} {g : TG} {tt : TT} {te : TE}
theorem pe_compT (S : CSc X scope N' sub) (hcalm : X.calm = true) (hi : PI X tg iter wi)
    (hg : ∀ cl C D fp s H, PG (cxC X N' scope cl C D fp s H) tg g) (ht : ∀ cl C D fp s H, PIfs (cxC X N' scope cl C D fp s H) ifs tt) (he : ∀ cl C D fp s H, PE (cxC X N' scope cl C D fp s H) elt te)
    (hs : ∀ x, foldedSetIterable iter X.env x = pure x := by intro _; rfl) : PE X (.ListComp elt [⟨tg, iter, ifs, 0⟩] scope pos) (tComp wi sub g tt te) := by
  intro pins s σ H Q I h
  obtain ⟨cl, hclos, hcl1, hcl2⟩ := S.clos I
  rw [eval_ListComp]
  refine wpAny_comprehension_free (use := none) rfl hs hclos S.kind S.names (thn (hi pins s σ H _ I h) fun v s1 h1 => thn h1 fun itv s2 h2 => ?_)
  obtain ⟨it, fp, tn, J, H2, e, I2, T, st2, f2, hW⟩ := h2
  subst e
  refine comp_blockT (RR := fun acc C => compPost (model X.prog X.w) X.A X.xe none (EP X pins σ Q) acc C) I2 hcalm T st2 f2 S hcl1 hcl2 (hg cl) (ht cl) (he cl) hW ?_
  intro D C oC m s' Hf IX hm fpc q
  refine ⟨m, hm, fun h' sb => ⟨.ref D, Hf, ?_, rfl, q⟩⟩
  exact (IX.unpinned).turned (it := C) (t' := s'.toks) (h' := h') (fun b o hb e => sb.extBut b o hb e) fpc.1 fpc.2.1 fpc.2.2.2.1 fpc.2.2.2.2.1 fpc.2.2.2.2.2
theorem ps_compT {i : Nat} {y : Str} {py spos : Pos} (hN : X.N.Nodup) (hiN : X.N[i]? = some y) (hy : X.env.scope.names.lookup y = some .local) (S : CSc X scope N' sub) (hcalm : X.calm = true) (hi : PI X tg iter wi)
    (hg : ∀ cl C D fp s H, PG (cxC X N' scope cl C D fp s H) tg g) (ht : ∀ cl C D fp s H, PIfs (cxC X N' scope cl C D fp s H) ifs tt) (he : ∀ cl C D fp s H, PE (cxC X N' scope cl C D fp s H) elt te)
    (hsw : swapsWith (.ListComp elt [⟨tg, iter, ifs, 0⟩] scope pos) (some (.Name y py)) spos.line X.env = pure true := by rfl)
    (hs : ∀ x, foldedSetIterable iter X.env x = pure x := by intro _; rfl) : PS X (.Assign [.Name y py] (.ListComp elt [⟨tg, iter, ifs, 0⟩] scope pos) spos) (tAsg (tComp wi sub g tt te) (gName i)) := by
  intro pins s σ H D I h
  obtain ⟨cl, hclos, hcl1, hcl2⟩ := S.clos I
  rw [exec_Assign_Name_used _ _ _ _ hsw]
  refine wpAny_bind (wpAny_standAt (wpAny_bind ?_))
  show wpAny _ X.A (do let _ ← comprehension (.ListComp elt [⟨tg, iter, ifs, 0⟩] scope pos) scope X.env _ (newList []) false (eval iter X.env) (some (assign (.Name y py) X.env))) _ _ s
  refine wpAny_bind (wpAny_mono (wpAny_comprehension_free (use := some (assign (.Name y py) X.env)) (Q := fun _ s' => SP X pins D .next s') rfl hs hclos S.kind S.names
    (thn (hi pins s σ H _ I h) fun v s1 h1 => thn h1 fun itv s2 h2 => ?_)) (fun _ s' hq => wpAny_pure (wpAny_pure hq)) fun _ _ e => e)
  obtain ⟨it, fp, tn, J, H2, e, I2, T, st2, f2, hW⟩ := h2
  subst e
  refine comp_blockT (Q := fun x H1 => gName i x σ H1 D.nx) (RR := fun acc C => compPost (model X.prog X.w) X.A X.xe (some (assign (.Name y py) X.env)) (fun _ s' => SP X pins D .next s') acc C) I2 hcalm T st2 f2 S hcl1 hcl2 (hg cl) (ht cl) (he cl) hW ?_
  intro L C oC m s' Hf IX hm fpc q
  have st := pg_name (X := X) (pos := py) hN hiN (.inl hy) (.inr hy) _ s' σ Hf (.ref L) (.ref L) D.nx IX rfl q
  refine thn st fun _ s'' ⟨σ2, H2, I2', q2⟩ => ?_
  have p := I2'.pin (C, oC) (by simp)
  have hm' : s''.heap.Ns C m := by
    obtain ⟨o, es, ep, e1, r⟩ := hm
    have z := (IX.pin (C, oC) (by simp)).1
    rw [e1] at z; cases z
    exact ⟨_, es, ep, p.1, r⟩
  refine ⟨m, hm', fun h' sb => ⟨σ2, H2, ?_, q2⟩⟩
  exact (I2'.unpinned).turned (it := C) (t' := s''.toks) (h' := h') (fun b o hb e => sb.extBut b o hb e) p.2.1 fpc.2.1 fpc.2.2.2.1 fpc.2.2.2.2.1 fpc.2.2.2.2.2
end
end L3

namespace L3
open PySem PySem.Spec PyProof.Rows L2
section
variable {prog : Program} {w : World} {A : Around} {E : Value → Shared → Prop} {s : Shared}
end
end L3

namespace L3
open PySem PySem.Spec PyProof.Rows L2
section
variable {prog : Program} {w : World} {A : Around} {E : Value → Shared → Prop} {s : Shared}
def SrcAt (h : Heap) (a : Addr) (cn : String) (vs : Array Value) : Prop := (cn = "tuple_iterator" ∧ h.IsTuple a vs) ∨ (cn = "list_iterator" ∧ h.IsList a vs)
theorem SrcAt.iter {a : Addr} {cn : String} {vs : Array Value} {Q : Value → Shared → Prop} (h : SrcAt s.heap a cn vs)
    (q : Q (.ref s.heap.objs.size) { s with heap := s.heap.push { cls := .type cn, data := .fields #[.ref a, .int 0 0] } }) : wpAny (model prog w) A (pyIter (.ref a)) Q E s := by
  rcases h with ⟨rfl, h⟩ | ⟨rfl, h⟩
  · exact wpAny_pyIter_tuple h q
  · exact wpAny_pyIter_list h q
theorem SrcAt.push {h : Heap} {a : Addr} {cn : String} {vs : Array Value} (x : SrcAt h a cn vs) (o : Obj) : SrcAt (h.push o) a cn vs := by
  rcases x with ⟨rfl, x⟩ | ⟨rfl, x⟩
  · exact .inl ⟨rfl, x.push o⟩
  · exact .inr ⟨rfl, x.push o⟩
def zpO (c : String) (a : Addr) : Obj := { cls := .type c, data := .fields #[.ref a, .int 0 0] }
end
end L3

namespace L3
open PySem PySem.Spec PyProof.Rows L2
def SqC (c : Bool) (K : PySem.W.Frag) (H : Hp) (a : Addr) (xs : List V) : Prop := match c with
  | true => SqT K H a xs
  | false => SqL K H a xs
def IterC (c : Bool) (h : Heap) (j a : Addr) (i : Nat) : Prop := match c with
  | true => h.IsTupleIter j a i
  | false => h.IsListIter j a i
def SeqC (c : Bool) (h : Heap) (a : Addr) (vs : Array Value) : Prop := match c with
  | true => h.IsTuple a vs
  | false => h.IsList a vs
def cnC (c : Bool) : String := match c with
  | true => "tuple_iterator"
  | false => "list_iterator"
theorem IterC.at {c : Bool} {h h' : Heap} {j a : Addr} {i : Nat} (x : IterC c h j a i) (k : ∀ o, h.get? j = some o → h'.get? j = some o) : IterC c h' j a i := by
  cases c
  · exact Heap.IsListIter.at x k
  · exact Heap.IsTupleIter.at x k
theorem IterC.obj {c : Bool} {h : Heap} {j a : Addr} {i : Nat} (x : IterC c h j a i) : ∃ o, h.get? j = some o ∧ ∀ v, o.data ≠ .cell v := by
  cases c
  · obtain ⟨o, e, _, d⟩ := x
    exact ⟨o, e, fun v z => by rw [d] at z; cases z⟩
  · obtain ⟨o, e, _, d⟩ := x
    exact ⟨o, e, fun v z => by rw [d] at z; cases z⟩
theorem IterC.mk {c : Bool} {h : Heap} {j a : Addr} (e : h.get? j = some (zpO (cnC c) a)) : IterC c h j a 0 := by
  cases c
  · exact ⟨_, e, rfl, rfl⟩
  · exact ⟨_, e, rfl, rfl⟩
theorem SeqC.src {c : Bool} {h : Heap} {a : Addr} {vs : Array Value} (x : SeqC c h a vs) : SrcAt h a (cnC c) vs := by
  cases c
  · exact .inr ⟨rfl, x⟩
  · exact .inl ⟨rfl, x⟩
theorem SeqC.lt {c : Bool} {h : Heap} {a : Addr} {vs : Array Value} (x : SeqC c h a vs) : a < h.objs.size := by
  cases c
  · obtain ⟨_, e, _⟩ := (show h.IsList a vs from x); exact Heap.lt_size e
  · obtain ⟨_, e, _⟩ := (show h.IsTuple a vs from x); exact Heap.lt_size e
theorem drawsC {prog : Program} {w : World} {A : Around} (hh : A.handled = none) (c : Bool) (j t : Addr) (hne : t ≠ j) (vs : Array Value) :
    Draws prog w A j [j, t] vs.size (fun i v => vs[i]? = some v) (fun i h => IterC c h j t i ∧ SeqC c h t vs) := by
  cases c
  · exact Draws.list hh j t hne vs
  · exact draws_tup hh j t hne vs
theorem draws_endL {prog : Program} {w : World} {A : Around} (hh : A.handled = none) (jt t : Addr) (vs : Array Value) {i : Nat} (hv : vs[i]? = none) :
    Draws prog w A jt [jt, t] i (fun _ _ => True) (fun j h => j = i ∧ h.IsListIter jt t i ∧ h.IsList t vs) where
  live := fun _ _ st => let ⟨o, ho, _⟩ := st.2.1; ⟨o, ho⟩
  frame := fun _ _ _ st hk => ⟨st.1, st.2.1.at (hk jt (by simp)), st.2.2.at (hk t (by simp))⟩
  item := fun j s Q E hj st hQ => absurd st.1 (Nat.ne_of_lt hj)
  done := fun s Q E st hE => wpAny_nextOf_list_end hh st.2.1 st.2.2 hv hE
theorem drawsC_end {prog : Program} {w : World} {A : Around} (hh : A.handled = none) (c : Bool) (j t : Addr) (vs : Array Value) {i : Nat} (hv : vs[i]? = none) :
    Draws prog w A j [j, t] i (fun _ _ => True) (fun k h => k = i ∧ IterC c h j t i ∧ SeqC c h t vs) := by
  cases c
  · exact draws_endL hh j t vs hv
  · exact draws_end hh j t vs hv
theorem inv_seqC {X : Cx} {pins : List (Addr × Obj)} {σ : L2.St} {H : Hp} {s : Shared} {c : Bool} {a : Addr} {xs : List V} (I : Inv X pins σ H s) (h : SqC c X.K H a xs) : ∃ its : List Value, Vals xs its ∧ SeqC c s.heap a its.toArray := by
  cases c
  · obtain ⟨its, r, p, _⟩ := I.list h
    exact ⟨its, r, p.isList⟩
  · obtain ⟨its, r, p, _⟩ := I.tuple h
    exact ⟨its, r, p⟩
theorem inv_seqC_inj {X : Cx} {pins : List (Addr × Obj)} {σ : L2.St} {H : Hp} {s : Shared} {c : Bool} {a : Addr} {xs ys : List V} (I : Inv X pins σ H s) (h : SqC c X.K H a xs) (h' : SqC c X.K H a ys) : xs = ys := by
  cases c
  · exact I.list_inj h h'
  · exact I.tuple_inj h h'
section
variable {X : Cx} {elts : List Expr} {kt : Nat} {pt : Pos}
end
end L3

namespace L3
open PySem PySem.Spec PyProof.Rows L2
section
variable {X : Cx} {elts : List Expr} {kt : Nat} {pt : Pos} {K : PySem.W.Frag}
end
section
variable {K : PySem.W.Frag} {a b : Addr} {c d : Bool} {xs ys : List V} {g : TG} {tt : TT} {te : TE} {tb : TS} {D : Ends} {Q : VK} {σ : L2.St} {H : Hp}
end
section
variable {prog : Program} {w : World} {A : Around} {E : Value → Shared → Prop} {s : Shared}
open AutoSeq1 (wpAny_loadPart')
theorem enum_newC (t : Addr) (c : Bool) (vs : Array Value) :
    Meets (Builtin.«enumerate.__new__» ⟨[.type "enumerate", .ref t], []⟩) (fun _ R s => SeqC c s.heap t vs ∧
      R (.ok (.ret (.ref (s.heap.push (zpO (cnC c) t)).objs.size)))
        { s with heap := (s.heap.push (zpO (cnC c) t)).push { cls := .type "enumerate", data := .fields #[.none, .bool false, .ref s.heap.objs.size, rawInt 0, .none, .none] } }) :=
  .of_wp fun prog w A R s h => by
    obtain ⟨hp, g, d, tk, os⟩ := s; obtain ⟨hT, h⟩ := h
    have hT' : SrcAt (Shared.heap ⟨hp, g, d, tk, os⟩) t (cnC c) vs := hT.src
    obtain ⟨ot, hot⟩ : ∃ o, hp.get? t = some o := by
      cases c
      · obtain ⟨o, e, _⟩ := (show hp.IsList t vs from hT); exact ⟨o, e⟩
      · obtain ⟨o, e, _⟩ := (show hp.IsTuple t vs from hT); exact ⟨o, e⟩
    have hsub := sub_enumerate
    wp_walk using wpAny_loadPart' hot
    refine wpAny_stack_any fun st => wpAny_pure ?_
    split
    · rename_i c' _ _ _ _ _
      cases (c' == Value.type "enumerate") <;> (wp_walk using wpAny_loadPart' hot, SrcAt.iter hT') <;> exact ⟨_, rfl, h⟩
    · wp_walk using wpAny_loadPart' hot, SrcAt.iter hT'
      exact ⟨_, rfl, h⟩
theorem call_enumC {t : Addr} {c : Bool} {vs : Array Value} {Q : Value → Shared → Prop} (ht : SeqC c s.heap t vs)
    (h : ∀ h', IsEnum h' (s.heap.objs.size + 1) s.heap.objs.size 0 .none → IterC c h' s.heap.objs.size t 0 → h'.objs.size = s.heap.objs.size + 2 → (∀ b o, s.heap.get? b = some o → h'.get? b = some o) → Q (.ref (s.heap.objs.size + 1)) { s with heap := h' }) :
    wpAny (model prog w) A (call (.type "enumerate") [.ref t]) Q E s := by
  refine callType_new F.called_enumerate (by decide) (F.typeCall_enumerate_1 _) (F.newCall_enumerate_1 _) (fun obj => F.args_object_init_2 obj _) F.entry_enumerate_new (enum_newC t c vs) ⟨ht, ?_⟩
  have hz : (s.heap.push (zpO (cnC c) t)).objs.size = s.heap.objs.size + 1 := Heap.size_push ..
  show _ ∧ _
  rw [hz]
  have he : IsEnum ((s.heap.push (zpO (cnC c) t)).push { cls := .type "enumerate", data := .fields #[.none, .bool false, .ref s.heap.objs.size, rawInt 0, .none, .none] }) (s.heap.objs.size + 1) s.heap.objs.size 0 .none := by
    have := Heap.get?_push_size (s.heap.push (zpO (cnC c) t)) (o := { cls := .type "enumerate", data := .fields #[.none, .bool false, .ref s.heap.objs.size, rawInt 0, .none, .none] }) rfl
    rw [hz] at this; exact this
  exact ⟨⟨_, he, rfl⟩, h _ he (.mk (Heap.get?_push_of_some _ (Heap.get?_push_size _ rfl))) (by rw [Heap.size_push, Heap.size_push]) fun b o x => Heap.get?_push_of_some _ (Heap.get?_push_of_some _ x)⟩
end
def IteC (c : Bool) (K : PySem.W.Frag) (a : Addr) : It :=
  ⟨fun i H => ∃ xs x, SqC c K H a xs ∧ xs[i]? = some x, fun i H x H' => ∃ T v, H T = none ∧ x = .ref T ∧ H' = upd H T (.tup [.int i, v]) ∧ ∀ xs, SqC c K H a xs → xs[i]? = some v, fun i H => ∃ xs, SqC c K H a xs ∧ xs.length ≤ i⟩
theorem turn_enumC {P : Program} {w : World} {K : PySem.W.Frag} {elts : List Expr} {kt : Nat} {pt : Pos} (c : Bool) (a e jt : Addr) (hej : e ≠ jt) (hae : a ≠ e) (haj : a ≠ jt) :
    Turn P w K (.Tuple elts kt pt) (IteC c K a) [e, jt] e (fun i h => (∃ old, IsEnum h e jt i old) ∧ IterC c h jt a i) where
  mem := by simp
  obj := fun i h st b hb => by
    obtain ⟨⟨old, he⟩, st⟩ := st
    simp only [List.mem_cons, List.mem_nil_iff, or_false] at hb
    rcases hb with rfl | rfl
    · exact ⟨_, he, fun v z => by cases z⟩
    · exact st.obj
  keep := fun i h h' st k => by
    obtain ⟨⟨old, he⟩, st⟩ := st
    exact ⟨⟨old, k e (by simp) _ he⟩, st.at fun o q => k jt (by simp) o q⟩
  item := by
    intro X hP hw hK hc i pins s σ H E I hf st hg
    subst hP hw hK
    obtain ⟨⟨old, he⟩, hit⟩ := st
    obtain ⟨xs, x, hq, hx⟩ := hg
    obtain ⟨its, rv, p⟩ := inv_seqC I hq
    obtain ⟨u, hu, ru⟩ := rv.get hx
    have hlt : i < its.toArray.size := by have := (List.getElem?_eq_some_iff.mp hu).1; simpa using this
    refine wpAny_pyNext_enum_itemD (drawsC (A := X.A.in1) (I.ok.hd hc) c jt a haj its.toArray) he ⟨hit, p⟩ hlt hej (by simp [hej, Ne.symm hae]) fun v h1 tk hv hout hst1 hT hsz hk => ?_
    have hvu : v = u := by
      have e1 : its.toArray[i]? = some v := hv
      have e2 : its.toArray[i]? = some u := by simpa using hu
      rw [e1] at e2; exact Option.some.inj e2
    subst hvu
    refine ⟨_, rfl, wpAny_letOwnedTupleGo_enum (s := { s with heap := h1, toks := tk + 1 }) hout fun h2 he2 hs2 => ?_⟩
    have hk2 : ∀ b o, b ∉ [e, jt] → s.heap.get? b = some o → h2.get? b = some o := fun b o hb q => by
      have n1 : b ≠ e := fun z => hb (by simp [z])
      have n2 : b ≠ jt := fun z => hb (by simp [z])
      exact (hs2.2 b n1).trans (hk b o n1 n2 q)
    have eT : s.heap.objs.size ≠ e := Nat.ne_of_gt (Heap.lt_size he)
    have hT2 : h2.get? s.heap.objs.size = some { cls := .type "tuple", data := .seq #[.int i tk, v] } := (hs2.2 _ eT).trans hT
    have hn : H s.heap.objs.size = none := I.hok.fresh (Nat.le_refl _)
    have I2 : Inv X pins σ (upd H s.heap.objs.size (.tup [.int i, x])) { s with heap := h2, toks := tk + 1 } := turnLaid (s := s) I hk2 hf (Nat.le_refl _) ⟨by show 2 ≤ sizeLine; decide, [.int i tk, v], .cons ⟨_, rfl⟩ (.cons ru .nil), _, hT2, rfl, 0, rfl⟩
    refine ⟨.ref s.heap.objs.size, upd H s.heap.objs.size (.tup [.int i, x]), I2, rfl, ⟨_, x, hn, rfl, rfl, fun ys hy => by rw [inv_seqC_inj I hy hq]; exact hx⟩, ⟨⟨v, by simpa using he2⟩, ?_⟩, fun b hb => ?_⟩
    · exact hst1.1.at fun o q => (hs2.2 jt (Ne.symm hej)).trans q
    · have nb : b ≠ s.heap.objs.size := by
        obtain ⟨oj, hoj, _⟩ := hit.obj
        simp only [List.mem_cons, List.mem_nil_iff, or_false] at hb
        rcases hb with rfl | rfl
        · exact Ne.symm eT
        · exact Nat.ne_of_lt (Heap.lt_size hoj)
      rw [upd_ne nb]; exact (hf b hb).1
  done := by
    intro X hP hw hK hc i pins s σ H E I hf st hg
    subst hP hw hK
    obtain ⟨⟨old, he⟩, hit⟩ := st
    obtain ⟨xs, hq, hx⟩ := hg
    obtain ⟨its, rv, p⟩ := inv_seqC I hq
    have hl := rv.length
    refine wpAny_pyNext_enum_endD (drawsC_end (A := X.A.in1) (I.ok.hd hc) c jt a its.toArray (i := i) (by simp; omega)) he ⟨rfl, hit, p⟩ fun h' eb => ⟨rfl, ?_⟩
    exact turnedL (fp := [e, jt]) (t' := s.toks) I (fun b o hb q => eb b o (fun z => hb (by simp [z])) q) hf
  self := fun _ _ _ _ _ st h => by
    obtain ⟨⟨old, he⟩, _⟩ := st
    exact wpAny_pyIter_enum he h
section
variable {X : Cx} {elts : List Expr} {kt : Nat} {pt : Pos} {K : PySem.W.Frag}
def iEnumC (c : Bool) (K : PySem.W.Frag) (ta : TA) : TI := fun σ H R => ta σ H fun vs H1 => ∃ a xs, vs = [.ref a] ∧ SqC c K H1 a xs ∧ R (IteC c K a) H1
theorem pi_enumC {a : Expr} {ta : TA} {p pos : Pos} (c : Bool) (hK : X.K = K) (hg : Gl X "enumerate") (hm : X.mg "enumerate" = none) (ha : PA X [a] ta) (hs : starEach [a] X.env = [(false, eval a X.env)] := by rfl) :
    PI X (.Tuple elts kt pt) (.Call (.Name "enumerate" p) [a] [] pos) (iEnumC c K ta) := by
  subst hK
  intro pins s σ H R I h
  refine Call_ (ld_blt I hg hm b_enum (PyProof.Rows.callWith_type1 (thn (ha pos pins s σ H _ I h) fun us s1 ⟨vs, H1, I1, r1, q1⟩ => ?_) hs rfl))
  obtain ⟨t, xs, e, hq, q⟩ := q1
  subst e
  obtain ⟨u, rfl, e1⟩ := vals1 r1
  cases (show u = Value.ref t from e1)
  obtain ⟨its, rv, p⟩ := inv_seqC I1 hq
  refine call_enumC p fun h' he hit _ hk => ?_
  refine wpAny_pyIter_enum he ?_
  have lt : t < s1.heap.objs.size := p.lt
  have I2 : Inv X pins σ H1 { s1 with heap := h' } := I1.kept (t' := s1.toks) hk
  refine ⟨s1.heap.objs.size + 1, [s1.heap.objs.size + 1, s1.heap.objs.size], _, _, H1, rfl, I2, turn_enumC c t (s1.heap.objs.size + 1) s1.heap.objs.size (Nat.succ_ne_self _) (Nat.ne_of_lt (Nat.lt_succ_of_lt lt)) (Nat.ne_of_lt lt), ⟨⟨_, he⟩, hit⟩, fun b hb => ?_, q⟩
  simp only [List.mem_cons, List.mem_nil_iff, or_false] at hb
  rcases hb with rfl | rfl
  · exact I1.fpOk (Nat.le_succ _) (I1.hok.fresh (Nat.le_succ _))
  · exact I1.fpOk (Nat.le_refl _) (I1.hok.fresh (Nat.le_refl _))
end
section
variable {K : PySem.W.Frag} {a : Addr} {c : Bool} {xs : List V} {g : TG} {tt : TT} {te : TE} {tb : TS} {D : Ends} {Q : VK} {σ : L2.St} {H : Hp}
theorem comp_enumC (Pv : Nat → List V → L2.St → Hp → Prop) (h0 : Pv 0 [] σ H) (hl : ∀ i zs σ H, Pv i zs σ H → SqC c K H a xs)
    (hs : ∀ i x zs σ H T, xs[i]? = some x → Pv i zs σ H → H T = none → g (.ref T) σ (upd H T (.tup [.int i, x])) fun σ2 H3 => tt σ2 H3 fun b H4 => if b = true then te σ2 H4 fun y H5 => zs.length < sizeLine ∧ Pv (i + 1) (zs ++ [y]) σ2 H5 else Pv (i + 1) zs σ2 H4)
    (hd : ∀ zs σ H, Pv xs.length zs σ H → ∀ l, H l = none → Q (.ref l) (upd H l (.lst zs))) :
    CompW (IteC c K a) σ H g tt te Q := by
  refine ⟨fun i m zs σ H => m = xs.length - i ∧ i ≤ xs.length ∧ Pv i zs σ H, ⟨xs.length, by simp, Nat.zero_le _, h0⟩, ?_⟩
  rintro i m zs σ H ⟨rfl, hi, p⟩
  have q := hl i zs σ H p
  by_cases hlt : i < xs.length
  · refine .inr ⟨⟨xs, xs[i], q, by simp [hlt]⟩, Pv (i + 1), fun ws σ' H' p' => ⟨xs.length - (i + 1), by omega, rfl, hlt, p'⟩, fun x H' y => ?_⟩
    obtain ⟨T, v, hT, rfl, rfl, y1⟩ := y
    exact hs i v zs σ H T (y1 xs q) p hT
  · have e : i = xs.length := by omega
    subst e
    exact .inl ⟨⟨xs, q, Nat.le_refl _⟩, hd zs σ H p⟩
end
end L3

namespace L3
open PySem PySem.Spec PyProof.Rows L2
section
variable {X : Cx}
variable {K : PySem.W.Frag}
theorem pg_tupK {es : List Expr} {k : Nat} {pos : Pos} {t : TGs} (n : Nat) (h0 : X.K = K) (hc : X.calm = true) (h : PGs X es t)
    (hn : (assignEach es X.env).length = n) (hst : (assignEach es X.env).findIdx? (·.1) = none) : PG X (.Tuple es k pos) (gTup K n t) := by subst h0; exact pg_tup hc h hn hst
end
def InC (C : Int) (xs : List Int) : Prop := ∀ v ∈ xs, -C ≤ v ∧ v ≤ C
theorem InC.mono {B C : Int} {xs : List Int} (h : InC B xs) (hC : B ≤ C) : InC C xs := fun v hv => by have := h v hv; omega
end L3

namespace L3
open PySem PySem.Spec PyProof.Rows L2
theorem GathAt.dat {K : PySem.W.Frag} {H : Hp} {x : V} {g : List Deed × List Deed} (h : GathAt K H x g) : Dat K H x (.tuple [.tuple (g.1.map deedD), .tuple (g.2.map deedD)]) := by
  obtain ⟨r, r1, r2, rfl, h0, d1, d2⟩ := h
  exact .tup h0 (.cons d1.dat (.cons d2.dat .nil))
end L3

namespace L3
open PySem PySem.Spec PyProof.Rows L2
theorem vals_ints : ∀ {ns : List Int} {us : List Value}, IntsAre us ns → Vals (ns.map V.int) us := by
  intro ns us h
  induction h with
  | nil => exact .nil
  | cons n t _ ih => exact .cons ⟨t, rfl⟩ ih
section
variable {X : Cx} {K : PySem.W.Frag}
theorem call_sortedL (hK : X.K = K) : CallR X (.builtin "sorted") (fun xs H Q => ∃ (l : Addr) (ns : List Int), xs = [.ref l] ∧ SqL K H l (ns.map V.int) ∧ ns.length < 64 ∧ ∀ (p : Addr) (ms : List Int), H p = none → ms.Perm ns → ms.Pairwise (· ≤ ·) → Q (.ref p) (upd H p (.lst (ms.map V.int)))) := by
  subst hK
  intro pins s σ H xs us Q I r h
  obtain ⟨l, ns, rfl, hl, h64, q⟩ := h
  obtain ⟨u, rfl, rx⟩ := vals1 r
  cases (show u = Value.ref l from rx)
  obtain ⟨vs, rv, pl, hz⟩ := I.list hl
  have hlen := rv.length
  rw [List.length_map] at hlen hz
  refine sorted_ints pl.isList (intsAre_of rv) (by omega) fun out ms i1 i2 i3 => ?_
  obtain ⟨e, he⟩ := sortedAll_at s.heap vs out
  have hn : H (s.heap.objs.size + 1) = none := I.hok.fresh (Nat.le_succ _)
  have rl := vals_ints i1
  refine ⟨.ref (s.heap.objs.size + 1), _, ?_, rfl, q _ ms hn i2 i3⟩
  refine I.laid (t' := s.toks) (fun b o q => sortedAll_old q) (Nat.le_succ _) (show ObjOk X.prog X.w _ _ _ (.lst (ms.map V.int)) from ⟨by rw [List.length_map, i2.length_eq]; exact hz, out.toList, e, rl, he⟩)
end
end L3

namespace L3
open PySem PySem.Spec PyProof.Rows L2
structure Wk (prog : Program) (w : World) (A : Around) (T : String) (I : Addr) (n : Nat) (Fr : Addr → Prop) (J : List Value → Shared → Prop) (Fn : List Value → Shared → Prop) : Prop where
  ty : ∀ acc s, J acc s → s.TypeIs (.ref I) T
  self : ∀ acc s (Q : Value → Shared → Prop) (E : Value → Shared → Prop), J acc s → Q (.ref I) s → wpAny (model prog w) A (pyIter (.ref I)) Q E s
  stay : ∀ acc s (S : Addr) (ob : Obj) (h' : Heap), J acc s → Fr S → s.heap.get? S = some ob → ob.cls = .type "list" → (∀ b o, b ≠ S → s.heap.get? b = some o → h'.get? b = some o) → h'.objs.size = s.heap.objs.size → J acc { s with heap := h' }
  next : ∀ acc s (S : Addr) (ob : Obj) (Q : Option Value → Shared → Prop) (E : Value → Shared → Prop), J acc s → Fr S → s.heap.get? S = some ob → ob.cls = .type "list" →
    (∀ v s', acc.length < n → J (acc ++ [v]) s' → s'.heap.get? S = some ob → Q (some v) s') → (∀ s', Fn acc s' → s'.heap.get? S = some ob → Q none s') → wpAny (model prog w) A (pyNext (.ref I)) Q E s
  push : ∀ acc s (o : Obj), J acc s → J acc { s with heap := s.heap.push o }
section
variable {prog : Program} {w : World} {A : Around} {R : Result → Shared → Prop} {T : String} {I : Addr} {n : Nat} {Fr : Addr → Prop} {J Fn : List Value → Shared → Prop}
end
section
variable {prog : Program} {w : World} {A : Around} {E : Value → Shared → Prop} {s : Shared} {T : String} {I : Addr} {n : Nat} {Fr : Addr → Prop} {J Fn : List Value → Shared → Prop}
end
end L3

namespace L3
open PySem PySem.Spec PyProof.Rows L2
section
variable {prog : Program} {w : World} {A : Around} {E : Value → Shared → Prop} {s : Shared}
end
section
variable {X : Cx} {pins : List (Addr × Obj)} {σ : L2.St} {H : Hp} {s : Shared} {h' : Heap}
end
end L3

namespace L3
open PySem PySem.Spec PyProof.Rows L2
section
variable {X : Cx} {pins : List (Addr × Obj)} {σ : L2.St} {H : Hp} {s0 : Shared} {K : PySem.W.Frag}
end
section
variable {X : Cx} {K : PySem.W.Frag} {a : Expr} {ta : TA} {p p2 pos pos2 : Pos}
end
end L3

namespace L3
open PySem PySem.Spec PyProof.Rows L2
section
variable {X : Cx} {K : PySem.W.Frag}
theorem op_neNil {k : Nat} (hK : X.K = K) (hr : Room k X.A) : OpR X (compareOp .NotEq) (fun x y H Q => ∃ a b xs, x = .ref a ∧ y = .ref b ∧ SqL K H a xs ∧ SqL K H b [] ∧ Q (.bl (!xs.isEmpty)) H) := by
  subst hK
  intro pins s σ H x y v u Q I rx ry h
  obtain ⟨a, b, xs, rfl, rfl, ha, hb, q⟩ := h
  cases rx; cases ry
  obtain ⟨us, r1, t1, _⟩ := I.list ha
  obtain ⟨ws, r2, t2, _⟩ := I.list hb
  have hw : ws.length = 0 := r2.length.symm
  by_cases hl : us.length = ws.length
  · refine SeqAt.RcNeAt.lists (e := fun _ => true) t1.isList t2.isList (by simpa using hl) hr.units0 (fun j h1 h2 => absurd h2 (by simp; omega)) _ _ _ _ ?_
    have e : xs = [] := List.length_eq_zero_iff.mp (by rw [r1.length]; omega)
    subst e
    have e2 : us = [] := List.length_eq_zero_iff.mp (by omega)
    subst e2
    exact ⟨.bl _, H, I, rfl, q⟩
  · refine SeqAt.RcNeAt.lists_lengths t1.isList t2.isList (by simpa using hl) hr.units0 _ _ _ _ ?_
    have e : xs.isEmpty = false := by
      cases xs with
      | nil => exact absurd (by rw [← r1.length, hw]; rfl) hl
      | cons _ _ => rfl
    rw [e] at q
    exact ⟨.bl _, H, I, rfl, q⟩
end
def PurseF (H : Hp) (a : Addr) : Prop := ∃ p0 c t : Int, H a = some (.lst [.int p0, .int c, .int t]) ∧ 0 ≤ p0
theorem PurseF.grow {H H' : Hp} {a : Addr} (p : PurseF H a) (g : Grow [] H H') : PurseF H' a := by
  obtain ⟨x, y, z, h, q⟩ := p
  exact ⟨x, y, z, g.keep _ _ (by simp) h, q⟩
theorem PurseF.new {H : Hp} {a l : Addr} (p : PurseF H a) (hl : H l = none) (o : HO) : PurseF (upd H l o) a := p.grow (Grow.new hl o)
theorem PurseF.ne {H : Hp} {a l : Addr} (p : PurseF H a) (h : H l = none) : l ∉ [a] := by
  intro z
  obtain ⟨x, y, w, hz, _⟩ := p
  rw [List.mem_singleton.mp z, hz] at h
  cases h
def sortI (ns : List Int) : List Int := ns.mergeSort fun a b => decide (a ≤ b)
def dupS : List Int → Option Int
  | a :: b :: r => if a = b then some a else dupS (b :: r)
  | _ => none
def levelL (rows : List (List Int)) (l : Nat) : List Int := rows.map fun r => r.getD l 0
def sharedAt (rows : List (List Int)) (l : Nat) : Option Int := dupS (sortI (levelL rows l))
def SharedIs (k : Nat) (rows : List (List Int)) (o : Option (Nat × Int)) : Prop := match o with
  | none => ∀ l, l ≤ k → sharedAt rows l = none
  | some (l, v) => l ≤ k ∧ sharedAt rows l = some v ∧ ∀ j, j < l → sharedAt rows j = none
theorem SharedIs.one {k : Nat} {rows rows' : List (List Int)} {o o' : Option (Nat × Int)} (e : ∀ l, sharedAt rows l = sharedAt rows' l) (h : SharedIs k rows o) (h' : SharedIs k rows' o') : o = o' := by
  cases o with
  | none =>
    cases o' with
    | none => rfl
    | some p =>
      obtain ⟨l, v⟩ := p
      have z := h l h'.1
      rw [e, h'.2.1] at z; cases z
  | some p =>
    obtain ⟨l, v⟩ := p
    cases o' with
    | none =>
      have z := h' l h.1
      rw [← e, h.2.1] at z; cases z
    | some p' =>
      obtain ⟨l', v'⟩ := p'
      obtain ⟨a1, a2, a3⟩ := h
      obtain ⟨b1, b2, b3⟩ := h'
      by_cases c : l < l'
      · have z := b3 l c
        rw [← e, a2] at z; cases z
      · by_cases c2 : l' < l
        · have z := a3 l' c2
          rw [e, b2] at z; cases z
        · have : l = l' := by omega
          subst this
          rw [e, b2] at a2
          cases a2; rfl
def ClashAt (K : PySem.W.Frag) (H : Hp) (x : V) (o : Option (Nat × Int)) : Prop := match o with
  | none => x = .non
  | some (l, v) => ∃ r, x = .ref r ∧ SqT K H r [.int l, .int v]
theorem Grow.clash {m : List Addr} {H H' : Hp} (g : Grow m H H') {K : PySem.W.Frag} {x : V} {o : Option (Nat × Int)} (h : ClashAt K H x o) : ClashAt K H' x o := by
  cases o with
  | none => exact h
  | some p =>
    obtain ⟨l, v⟩ := p
    obtain ⟨r, e, z⟩ := h
    exact ⟨r, e, g.sqT z⟩
def SetOk (k : Nat) (rows : List (List Int)) : Prop := rows.length = k ∧ ∀ r ∈ rows, r.length = 2 ^ (k - 1) ∧ ∀ b ∈ r, b = 0 ∨ b = 1
end L3

namespace L3
open PySem PySem.Spec PyProof.Rows L2
mutual
inductive Dq (K : PySem.W.Frag) (H : Hp) : V → PyData → Prop
  | non : Dq K H .non .none
  | bl (b : Bool) : Dq K H (.bl b) (.bool b)
  | int (i : Int) : Dq K H (.int i) (.int i)
  | str (x : Str) : Dq K H (.str x) (.str x)
  | tup {a : Addr} {xs : List V} {ds : List PyData} : SqT K H a xs → DqAll K H xs ds → Dq K H (.ref a) (.tuple ds)
  | lst {a : Addr} {xs : List V} {ds : List PyData} : SqL K H a xs → DqAll K H xs ds → Dq K H (.ref a) (.list ds)
inductive DqAll (K : PySem.W.Frag) (H : Hp) : List V → List PyData → Prop
  | nil : DqAll K H [] []
  | cons {x : V} {xs : List V} {d : PyData} {ds : List PyData} : Dq K H x d → DqAll K H xs ds → DqAll K H (x :: xs) (d :: ds)
end
mutual
theorem Dat.dq {K : PySem.W.Frag} {H : Hp} : ∀ {x : V} {d : PyData}, Dat K H x d → Dq K H x d
  | _, _, .non => .non
  | _, _, .bl b => .bl b
  | _, _, .int i => .int i
  | _, _, .tup h t => .tup h (DatAll.dq t)
  | _, _, .lst h t => .lst h (DatAll.dq t)
theorem DatAll.dq {K : PySem.W.Frag} {H : Hp} : ∀ {xs : List V} {ds : List PyData}, DatAll K H xs ds → DqAll K H xs ds
  | _, _, .nil => .nil
  | _, _, .cons h t => .cons (Dat.dq h) (DatAll.dq t)
end
theorem DqAll.len {K : PySem.W.Frag} {H : Hp} : ∀ {xs : List V} {ds : List PyData}, DqAll K H xs ds → xs.length = ds.length
  | _, _, .nil => rfl
  | _, _, .cons _ t => congrArg (· + 1) (DqAll.len t)
theorem DqAll.app {K : PySem.W.Frag} {H : Hp} : ∀ {xs : List V} {ds : List PyData} {ys : List V} {es : List PyData}, DqAll K H xs ds → DqAll K H ys es → DqAll K H (xs ++ ys) (ds ++ es)
  | _, _, _, _, .nil, h => h
  | _, _, _, _, .cons h t, g => .cons h (DqAll.app t g)
theorem all_true (n : Nat) : (List.range n).all (fun _ => true) = true := List.all_eq_true.mpr fun _ _ => rfl
section
variable {X : Cx} {pins : List (Addr × Obj)} {σ : L2.St} {H : Hp} {s : Shared}
mutual
theorem dq_eq (I : Inv X pins σ H s) : ∀ {d : PyData} {x y : V} {u v : Value} {A : Around}, Dq X.K H x d → Dq X.K H y d → RelV x u → RelV y v → A.units + d.depth < cLine → SeqAt.EqAt A s u v true
  | _, _, y, u, v, A, .non, hy, ru, rv, _ => by
    cases hy
    cases (show u = Value.none from ru)
    cases (show v = Value.none from rv)
    exact SeqAt.EqAt.same _
  | _, _, y, u, v, A, .bl b, hy, ru, rv, _ => by
    cases hy
    cases (show u = Value.bool b from ru)
    cases (show v = Value.bool b from rv)
    exact SeqAt.EqAt.same _
  | _, _, y, u, v, A, .int i, hy, ru, rv, _ => by
    cases hy
    obtain ⟨t, rfl⟩ := ru
    obtain ⟨t', rfl⟩ := rv
    have z := SeqAt.EqAt.int_int (A := A) (s := s) i t i t'
    rw [beq_self_eq_true] at z
    exact z
  | _, _, y, u, v, A, .str x, hy, ru, rv, _ => by
    cases hy
    obtain ⟨t, rfl⟩ := ru
    obtain ⟨t', rfl⟩ := rv
    have z := SeqAt.EqAt.str_str (A := A) (s := s) x t x t'
    rw [beq_self_eq_true] at z
    exact z
  | _, _, y, u, v, A, .tup (a := a) (xs := xs) (ds := ds) hs ha, hy, ru, rv, hu => by
    cases hy with
    | tup hs' ha' =>
      rename_i a' xs'
      cases (show u = Value.ref a from ru)
      cases (show v = Value.ref a' from rv)
      obtain ⟨us, r1, t1, _⟩ := I.tuple hs
      obtain ⟨ws, r2, t2, _⟩ := I.tuple hs'
      have hd : A.units + (PyData.depthAll ds + 1) < cLine := hu
      by_cases e : a = a'
      · subst e; exact SeqAt.EqAt.same _
      · have l1 := ha.len
        have l2 := ha'.len
        have q := SeqAt.RcAt.tuples (e := fun _ => true) (isTuple_of t1) (isTuple_of t2) (by omega) (dqs_eq I ha ha' r1 r2 (A := A.in1) (by show A.units + 1 + PyData.depthAll ds < cLine; omega))
        rw [all_true, Bool.true_and, List.size_toArray, List.size_toArray, ← r1.length, ← r2.length, l1, l2, beq_self_eq_true] at q
        exact SeqAt.EqAt.of_refs e q
  | _, _, y, u, v, A, .lst (a := a) (xs := xs) (ds := ds) hs ha, hy, ru, rv, hu => by
    cases hy with
    | lst hs' ha' =>
      rename_i a' xs'
      cases (show u = Value.ref a from ru)
      cases (show v = Value.ref a' from rv)
      obtain ⟨us, r1, t1, _⟩ := I.list hs
      obtain ⟨ws, r2, t2, _⟩ := I.list hs'
      have hd : A.units + (PyData.depthAll ds + 1) < cLine := hu
      by_cases e : a = a'
      · subst e; exact SeqAt.EqAt.same _
      · have l1 := ha.len
        have l2 := ha'.len
        have q := SeqAt.RcAt.lists (e := fun _ => true) t1.isList t2.isList (by rw [List.size_toArray, List.size_toArray, ← r1.length, ← r2.length, l1, l2]) (by omega) (dqs_eq I ha ha' r1 r2 (A := A.in1) (by show A.units + 1 + PyData.depthAll ds < cLine; omega))
        rw [all_true] at q
        exact SeqAt.EqAt.of_refs e q
theorem dqs_eq (I : Inv X pins σ H s) : ∀ {ds : List PyData} {xs ys : List V} {us vs : List Value} {A : Around}, DqAll X.K H xs ds → DqAll X.K H ys ds → Vals xs us → Vals ys vs → A.units + PyData.depthAll ds < cLine →
    ∀ j (h1 : j < us.toArray.size) (h2 : j < vs.toArray.size), SeqAt.EqAt A s us.toArray[j] vs.toArray[j] true
  | _, _, _, _, _, A, .nil, hy, ru, rv, _ => fun j h1 _ => by
    cases ru
    exact absurd h1 (Nat.not_lt_zero j)
  | _, _, _, _, _, A, .cons (d := d) (ds := ds) hx tx, hy, ru, rv, hd => fun j h1 h2 => by
    cases hy with
    | cons hy ty =>
      cases ru with
      | cons r1 rr1 =>
        cases rv with
        | cons r2 rr2 =>
          have hd' : A.units + max d.depth (PyData.depthAll ds) < cLine := hd
          cases j with
          | zero => simpa using dq_eq I hx hy r1 r2 (A := A) (by omega)
          | succ j =>
            have z := dqs_eq I tx ty rr1 rr2 (A := A) (by omega) j (by simpa using h1) (by simpa using h2)
            simpa using z
end
variable {K : PySem.W.Frag}
end
end L3

namespace L3
open PySem PySem.Spec PyProof.Rows L2
def xN (k st a : Nat) : Nat := a ^^^ 2 ^ (k - st)
def nN (k st a : Nat) : Nat := (numsL k a st).toNat
def lN (k h g n : Nat) : Nat := (lineL k h g n).toNat
theorem one_facts : ∀ k : Fin 5, ∀ st : Fin 5, 1 ≤ st.val → st.val ≤ k.val → ∀ a : Fin 16, a.val < 2 ^ k.val →
    (swI k.val st.val a.val = numsL k.val a.val st.val ∧ numsL k.val a.val st.val = (nN k.val st.val a.val : Int) ∧ nN k.val st.val a.val < 2 ^ (k.val - 1) ∧ nN k.val st.val (xN k.val st.val a.val) = nN k.val st.val a.val) ∧
    (xN k.val st.val (xN k.val st.val a.val) = a.val ∧ xN k.val st.val a.val ≠ a.val ∧ xN k.val st.val a.val < 2 ^ k.val) ∧
    (wfI k.val st.val a.val (Builtin.bitXor (figI k.val st.val a.val) 0) = (a.val : Int) ∧ wfI k.val st.val a.val (Builtin.bitXor (figI k.val st.val a.val) 1) = (xN k.val st.val a.val : Int)) ∧
    (Builtin.bitXor (figI k.val st.val a.val) (figI k.val st.val (xN k.val st.val a.val)) = 1 ∧ Builtin.bitXor (figI k.val st.val a.val) (figI k.val st.val a.val) = 0) ∧
    ((Builtin.bitXor (figI k.val st.val a.val) 0 = 0 ∨ Builtin.bitXor (figI k.val st.val a.val) 0 = 1) ∧ (Builtin.bitXor (figI k.val st.val a.val) 1 = 0 ∨ Builtin.bitXor (figI k.val st.val a.val) 1 = 1)) := by
  decide +kernel
theorem two_facts : ∀ k : Fin 5, ∀ st : Fin 5, 1 ≤ st.val → st.val ≤ k.val → ∀ a : Fin 16, a.val < 2 ^ k.val → ∀ b : Fin 16, b.val < 2 ^ k.val → nN k.val st.val a.val = nN k.val st.val b.val → b.val = a.val ∨ b.val = xN k.val st.val a.val := by
  decide +kernel
structure OneF (k st a : Nat) : Prop where
  sw : swI k st a = numsL k a st
  num : numsL k a st = (nN k st a : Int)
  lt : nN k st a < 2 ^ (k - 1)
  nx : nN k st (xN k st a) = nN k st a
  xx : xN k st (xN k st a) = a
  xne : xN k st a ≠ a
  xlt : xN k st a < 2 ^ k
  w0 : wfI k st a (Builtin.bitXor (figI k st a) 0) = (a : Int)
  w1 : wfI k st a (Builtin.bitXor (figI k st a) 1) = (xN k st a : Int)
  c1 : Builtin.bitXor (figI k st a) (figI k st (xN k st a)) = 1
  c0 : Builtin.bitXor (figI k st a) (figI k st a) = 0
  b0 : Builtin.bitXor (figI k st a) 0 = 0 ∨ Builtin.bitXor (figI k st a) 0 = 1
  b1 : Builtin.bitXor (figI k st a) 1 = 0 ∨ Builtin.bitXor (figI k st a) 1 = 1
theorem oneF {k st a : Nat} (k4 : k ≤ 4) (s1 : 1 ≤ st) (s2 : st ≤ k) (ha : a < 2 ^ k) : OneF k st a := by
  have p := pow16 k4
  obtain ⟨⟨a1, a2, a3, a4⟩, ⟨b1, b2, b3⟩, ⟨c1, c2⟩, ⟨d1, d2⟩, e1, e2⟩ := one_facts ⟨k, by omega⟩ ⟨st, by omega⟩ s1 s2 ⟨a, by omega⟩ ha
  exact ⟨a1, a2, a3, a4, b1, b2, b3, c1, c2, d1, d2, e1, e2⟩
theorem twoF {k st a b : Nat} (k4 : k ≤ 4) (s1 : 1 ≤ st) (s2 : st ≤ k) (ha : a < 2 ^ k) (hb : b < 2 ^ k) (e : nN k st a = nN k st b) : b = a ∨ b = xN k st a := by
  have p := pow16 k4
  exact two_facts ⟨k, by omega⟩ ⟨st, by omega⟩ s1 s2 ⟨a, by omega⟩ ha ⟨b, by omega⟩ hb e
def plOf (gs : List Nat) : List (Nat × Nat) := (List.range gs.length).map fun h => (h, gs.getD h 0)
def SidesOk (k : Nat) (gs : List Nat) : Prop := gs.length = 2 ^ k ∧ ∀ g ∈ gs, g < 2 ^ k
theorem SidesOk.get {k : Nat} {gs : List Nat} (h : SidesOk k gs) {i : Nat} (hi : i < 2 ^ k) : gs.getD i 0 < 2 ^ k := by
  rw [List.getD_eq_getElem?_getD, List.getElem?_eq_getElem (by rw [h.1]; exact hi)]
  exact h.2 _ (List.getElem_mem _)
def crossI (k st : Nat) (q : Nat × Nat) : Int := Builtin.bitXor (figI k st (lineL k q.1 q.2 (st - 1))) (figI k st (lineL k q.1 q.2 st))
def marksF (k st : Nat) (m : List Int) (q : Nat × Nat) : List Int := m.set (nN k st (lN k q.1 q.2 st)) (crossI k st q)
def marksR (k st : Nat) (pl : List (Nat × Nat)) : List Int := pl.foldl (marksF k st) (List.replicate (2 ^ k / 2) 0)
def setsL (k : Nat) (gs : List Nat) : List (List Int) := (List.range k).map fun n => marksR k (n + 1) (plOf gs)
theorem half_eq {k : Nat} (h : 1 ≤ k) : 2 ^ k / 2 = 2 ^ (k - 1) := by
  obtain ⟨n, rfl⟩ : ∃ n, k = n + 1 := ⟨k - 1, by omega⟩
  rw [Nat.pow_succ, Nat.mul_div_cancel _ (by decide)]; rfl
end L3

namespace L3
open PySem PySem.Spec PyProof.Rows L2
section
variable {X : Cx} {a : Expr} {ta : TA} {p p2 pos pos2 : Pos}
end
end L3

namespace L3
open PySem PySem.Spec PyProof.Rows L2
theorem half_sh {k : Nat} (h : k ≤ 4) : (1 : Int) * 2 ^ ((k : Int)).toNat / 2 ^ (1 : Int).toNat = ((2 ^ k / 2 : Nat) : Int) := by
  have key : ∀ k : Fin 5, (1 : Int) * 2 ^ ((k.val : Int)).toNat / 2 ^ (1 : Int).toNat = ((2 ^ k.val / 2 : Nat) : Int) := by decide
  exact key ⟨k, by omega⟩
def Bits (r : List Int) : Prop := ∀ b ∈ r, b = 0 ∨ b = 1
def sp_switches_in (_ : PySem.W.Frag) : Sp := sp1 fun x H Q => ∃ k : Nat, x = .int k ∧ k ≤ 4 ∧ Q (.int (2 ^ k / 2 : Nat)) H
def sp_are_marks (K : PySem.W.Frag) : Sp := sp2 fun x y H Q => ∃ (k : Nat) (row : List Int), x = .int k ∧ k ≤ 4 ∧ BoardAt K H y row ∧ row.length = 2 ^ k / 2 ∧ Bits row ∧ ∀ H', Grow [] H H' → Q (.bl true) H'
def sp_is_settings (K : PySem.W.Frag) : Sp := sp2 fun x y H Q => ∃ (k : Nat) (rows : List (List Int)), x = .int k ∧ k ≤ 4 ∧ RowsAt K H y rows ∧ SetOk k rows ∧ ∀ H', Grow [] H H' → Q (.bl true) H'
def sp_need_settings (K : PySem.W.Frag) : Sp := sp2 fun x y H Q => ∃ (k : Nat) (rows : List (List Int)), x = .int k ∧ k ≤ 4 ∧ RowsAt K H y rows ∧ SetOk k rows ∧ ∀ H', Grow [] H H' → Q .non H'
def natsV (gs : List Nat) : List V := gs.map fun g : Nat => V.int g
def AnsAt (K : PySem.W.Frag) (H : Hp) (x : V) (k : Nat) (gs : List Nat) (o : Option (Nat × Int)) : Prop := ∃ (r : Addr) (s : Str) (y : V), x = .ref r ∧ SqT K H r [.str s, y] ∧ match o with
  | none => s = "settings" ∧ RowsAt K H y (setsL k gs)
  | some (l, v) => s = "clash" ∧ ∃ c, y = .ref c ∧ SqT K H c [.int l, .int v]
theorem Grow.ans {m : List Addr} {H H' : Hp} (g : Grow m H H') {K : PySem.W.Frag} {x : V} {k : Nat} {gs : List Nat} {o : Option (Nat × Int)} (h : AnsAt K H x k gs o) : AnsAt K H' x k gs o := by
  obtain ⟨r, s, y, e, z, w⟩ := h
  refine ⟨r, s, y, e, g.sqT z, ?_⟩
  cases o with
  | none => exact ⟨w.1, g.rows w.2⟩
  | some p =>
    obtain ⟨l, v⟩ := p
    obtain ⟨w1, c, e, z⟩ := w
    exact ⟨w1, c, e, g.sqT z⟩
theorem SetOk.bits {k n : Nat} {rows : List (List Int)} (h : SetOk k rows) (hn : n < k) : (rows.getD n []).length = 2 ^ (k - 1) ∧ Bits (rows.getD n []) := by
  have e : rows[n]? = some (rows.getD n []) := by rw [List.getD_eq_getElem?_getD, List.getElem?_eq_getElem (by rw [h.1]; exact hn)]; rfl
  exact h.2 _ (List.mem_of_getElem? e)
theorem SidesOk.set {k : Nat} {gs : List Nat} (h : SidesOk k gs) {j n : Nat} (hn : n < 2 ^ k) : SidesOk k (gs.set j n) := by
  refine ⟨by rw [List.length_set, h.1], fun g hg => ?_⟩
  rcases List.mem_or_eq_of_mem_set hg with z | rfl
  · exact h.2 g z
  · exact hn
end L3

namespace L3
open PySem PySem.Spec PyProof.Rows L2
section
variable {prog : Program} {w : World} {A : Around} {E : Value → Shared → Prop} {s : Shared}
end
section
variable {X : Cx} {K : PySem.W.Frag}
def ItrD (lo : Int) (n : Nat) : It := ⟨fun i _ => i < n, fun i H x H' => H' = H ∧ x = .int (lo - i), fun i _ => n ≤ i⟩
theorem turn_rangeD {P : Program} {w : World} {K : PySem.W.Frag} {tg : Expr} (it : Addr) (lo : Int) (n : Nat) : Turn P w K tg (ItrD lo n) [it] it (fun i h => IsRangeIter h it (lo + (i : Nat) * (-1)) ((n : Int) - (i : Nat)) (-1)) where
  mem := by simp
  obj := fun i h st b hb => by
    obtain rfl : b = it := by simpa using hb
    refine ⟨_, st, fun v z => ?_⟩
    have z' : Data.fields _ = Data.cell v := z
    cases z'
  keep := fun i h h' st k => k it (by simp) _ st
  item := by
    intro X hP hw hK hc i pins s σ H E I hf st hg
    subst hP hw hK
    obtain ⟨f0, f1, f2, f3, f4, f5⟩ := hf it (by simp)
    have W := Walks.range (prog := X.prog) (w := X.w) (I.ok.hd hc) it lo (-1) n
    refine W.item i s _ _ hg st fun v h' tk hv st' kk => ?_
    obtain ⟨t, rfl⟩ := hv
    have J : Inv X pins σ H { s with heap := h', toks := tk } := I.turned (fun b o hb e => kk b o (by simpa using hb) e) f0 f1 f3 f4 f5
    refine ⟨_, rfl, go_of (s := { s with heap := h', toks := tk }) (n := "range_iterator") st' rfl rfl (by decide) ⟨.int (lo - i), H, J, ⟨t, ?_⟩, ⟨rfl, rfl⟩, st', fun b hb => (hf b hb).1⟩⟩
    rw [show lo + (i : Int) * (-1) = lo - i by omega]
  done := by
    intro X hP hw hK hc i pins s σ H E I hf st hg
    subst hP hw hK
    obtain ⟨f0, f1, f2, f3, f4, f5⟩ := hf it (by simp)
    exact wpAny_pyNext_range_end (I.ok.hd hc) st (by have : n ≤ i := hg; omega) fun h' eb => ⟨rfl, I.turned (t' := s.toks) (fun b o hb e => eb b o hb e) f0 f1 f3 f4 f5⟩
  self := fun _ _ _ _ _ st h => wpAny_pyIter_rangeiter st h
theorem sizeD (a b : Int) : Builtin.Range.rangeSize a b (-1) = ((a - b).toNat : Int) := by
  unfold Builtin.Range.rangeSize
  simp only [show ¬ ((-1 : Int) > 0) by decide, if_false, show (- -1 : Int) = 1 from rfl, Int.ediv_one]
  split <;> omega
theorem smallD {a b : Int} (h1 : -1000 ≤ a) (h2 : a ≤ 1000) (h3 : -1000 ≤ b) (h4 : b ≤ 1000) : Builtin.Range.small a b (-1) = true := by
  unfold Builtin.Range.small
  rw [sizeD]
  simp only [Builtin.Range.rangeFitsLong, Bool.and_eq_true, Bool.or_eq_true, decide_eq_true_eq, beq_iff_eq, show ¬ ((-1 : Int) > 0) by decide, if_false]
  omega
def iRngD (ta : TA) : TI := fun σ H R => ta σ H fun vs H1 => ∃ i j : Int, vs = [.int i, .int j, .int (-1)] ∧ -1000 ≤ i ∧ i ≤ 1000 ∧ -1000 ≤ j ∧ j ≤ 1000 ∧ R (ItrD i (i - j).toNat) H1
theorem pi_rangeD {tg a b c : Expr} {ta : TA} {p pos : Pos} (hg : Gl X "range") (hm : X.mg "range" = none) (ha : PA X [a, b, c] ta)
    (hs : starEach [a, b, c] X.env = [(false, eval a X.env), (false, eval b X.env), (false, eval c X.env)] := by rfl) (hs2 : starEach [b, c] X.env = [(false, eval b X.env), (false, eval c X.env)] := by rfl) :
    PI X tg (.Call (.Name "range" p) [a, b, c] [] pos) (iRngD ta) := by
  intro pins s σ H R I h
  refine Call_ (ld_blt I hg hm boot_range (PyProof.Rows.callWith_type1 (thn (ha pos pins s σ H _ I h) fun us s1 ⟨vs, H1, I1, r1, q1⟩ => ?_) (by rw [hs, hs2]) (by rw [hs2]; rfl)))
  obtain ⟨i, j, e, b1, b2, b3, b4, q⟩ := q1
  subst e
  cases r1 with
  | cons r rr =>
    cases rr with
    | cons r' rr =>
      cases rr with
      | cons r'' rr =>
        cases rr
        obtain ⟨t, rfl⟩ := r
        obtain ⟨t', rfl⟩ := r'
        obtain ⟨t'', rfl⟩ := r''
        refine call_range_3 (by decide) ?_ (Or.inl (PyProof.noPylong_small (by omega)))
        refine wpAny_pyIter_range (IsRange.new ..) (smallD b1 b2 b3 b4) ?_
        have I2 : Inv X pins σ H1 { s1 with heap := s1.heap.push { cls := .type "range", data := .fields #[.int i t, .int j t', .int (-1) t''] }, toks := s1.toks } := I1.kept fun b o e => Heap.get?_push_of_some _ e
        refine ⟨(s1.heap.push { cls := .type "range", data := .fields #[.int i t, .int j t', .int (-1) t''] }).objs.size, [(s1.heap.push { cls := .type "range", data := .fields #[.int i t, .int j t', .int (-1) t''] }).objs.size], _, _, H1, rfl,
          I2.kept (t' := s1.toks) fun b o e => Heap.get?_push_of_some _ e, turn_rangeD _ i (i - j).toNat, ?_, fun b hb => ?_, q⟩
        · show IsRangeIter _ _ (i + ((0 : Nat) : Int) * (-1)) ((((i - j).toNat : Nat) : Int) - ((0 : Nat) : Int)) (-1)
          rw [show i + ((0 : Nat) : Int) * (-1) = i by simp, show (((i - j).toNat : Nat) : Int) - ((0 : Nat) : Int) = Builtin.Range.rangeSize i j (-1) by rw [sizeD]; simp]
          exact Heap.get?_push_size _ rfl
        · obtain rfl : b = (s1.heap.push { cls := .type "range", data := .fields #[.int i t, .int j t', .int (-1) t''] }).objs.size := by simpa using hb
          exact I2.fpOk (Nat.le_refl _) (I2.hok.fresh (Nat.le_refl _))
theorem for_rangeD {lo : Int} {n : Nat} {g : TG} {tb : TS} {D : Ends} {σ : L2.St} {H : Hp} (Pv : Nat → L2.St → Hp → Prop) (h0 : Pv 0 σ H)
    (hs : ∀ i σ H, i < n → Pv i σ H → g (.int (lo - i)) σ H fun σ2 H2 => tb { D with nx := Pv (i + 1), ct := Pv (i + 1), bk := D.nx } σ2 H2) (hd : ∀ σ H, Pv n σ H → D.nx σ H) :
    ∃ W : Nat → Nat → L2.St → Hp → Prop, (∃ m, W 0 m σ H) ∧ ∀ i m σ H, W i m σ H →
      ((ItrD lo n).stop i H ∧ D.nx σ H) ∨ ((ItrD lo n).go i H ∧ ∃ N : L2.St → Hp → Prop, (∀ σ' H', N σ' H' → ∃ m', m' < m ∧ W (i + 1) m' σ' H') ∧ ∀ x H', (ItrD lo n).yld i H x H' → g x σ H' fun σ2 H2 => tb { D with nx := N, ct := N, bk := D.nx } σ2 H2) := by
  refine ⟨fun i m σ H => m = n - i ∧ i ≤ n ∧ Pv i σ H, ⟨n, by simp, Nat.zero_le _, h0⟩, ?_⟩
  rintro i m σ H ⟨rfl, hi, p⟩
  by_cases c : i < n
  · refine .inr ⟨c, Pv (i + 1), fun σ' H' p' => ⟨n - (i + 1), by omega, rfl, c, p'⟩, ?_⟩
    rintro x H' ⟨rfl, rfl⟩
    exact hs i σ _ c p
  · obtain rfl : i = n := by omega
    exact .inl ⟨Nat.le_refl _, hd σ H p⟩
end
end L3

namespace L3
open PySem PySem.Spec PyProof.Rows L2
section
variable {prog : Program} {w : World} {A : Around} {E : Value → Shared → Prop} {s : Shared}
end
section
variable {X : Cx} {K : PySem.W.Frag}
end
end L3

namespace L3
open PySem PySem.Spec PyProof.Rows L2
def wfN (k s l : Nat) (w : Int) : Nat := (wfI k s l w).toNat
theorem wfn_facts : ∀ k : Fin 5, ∀ s : Fin 5, 1 ≤ s.val → s.val ≤ k.val → ∀ l : Fin 16, l.val < 2 ^ k.val → ∀ w : Fin 2,
    (wfI k.val s.val l.val w.val = (wfN k.val s.val l.val w.val : Int) ∧ wfN k.val s.val l.val w.val < 2 ^ k.val ∧ figI k.val s.val (wfN k.val s.val l.val w.val) = w.val) ∧ ∀ t : Fin 5, t.val ≤ k.val → t.val ≠ s.val → figI k.val t.val (wfN k.val s.val l.val w.val) = figI k.val t.val l.val := by
  decide +kernel
theorem figs_facts : ∀ k : Fin 5, ∀ l : Fin 16, l.val < 2 ^ k.val → (∀ t : Fin 5, figI k.val t.val l.val = 0 ∨ figI k.val t.val l.val = 1) ∧ ∀ m : Fin 16, m.val < 2 ^ k.val → (∀ t : Fin 5, 1 ≤ t.val → t.val ≤ k.val → figI k.val t.val l.val = figI k.val t.val m.val) → l = m := by
  decide +kernel
structure WfF (k s l : Nat) (w : Int) : Prop where
  eq : wfI k s l w = (wfN k s l w : Int)
  lt : wfN k s l w < 2 ^ k
  at_ : figI k s (wfN k s l w) = w
  off : ∀ t : Nat, t ≤ k → t ≠ s → figI k t (wfN k s l w) = figI k t l
theorem wfF {k s l : Nat} {w : Int} (k4 : k ≤ 4) (s1 : 1 ≤ s) (s2 : s ≤ k) (hl : l < 2 ^ k) (hw : w = 0 ∨ w = 1) : WfF k s l w := by
  have p := pow16 k4
  have z := wfn_facts ⟨k, by omega⟩ ⟨s, by omega⟩ s1 s2 ⟨l, by omega⟩ hl
  rcases hw with rfl | rfl
  · exact ⟨(z 0).1.1, (z 0).1.2.1, (z 0).1.2.2, fun t ht hn => (z 0).2 ⟨t, by omega⟩ ht hn⟩
  · exact ⟨(z 1).1.1, (z 1).1.2.1, (z 1).1.2.2, fun t ht hn => (z 1).2 ⟨t, by omega⟩ ht hn⟩
theorem fig01 {k t l : Nat} (k4 : k ≤ 4) (ht : t ≤ k) (hl : l < 2 ^ k) : figI k t l = 0 ∨ figI k t l = 1 := by
  have p := pow16 k4
  exact (figs_facts ⟨k, by omega⟩ ⟨l, by omega⟩ hl).1 ⟨t, by omega⟩
theorem fig_inj {k l m : Nat} (k4 : k ≤ 4) (hl : l < 2 ^ k) (hm : m < 2 ^ k) (h : ∀ t : Nat, 1 ≤ t → t ≤ k → figI k t l = figI k t m) : l = m := by
  have p := pow16 k4
  have z := (figs_facts ⟨k, by omega⟩ ⟨l, by omega⟩ hl).2 ⟨m, by omega⟩ hm fun t h1 h2 => h t.val h1 h2
  exact congrArg Fin.val z
theorem figs_at {k i : Nat} {n : Int} (hi : i < k) : (figsL k n)[i]? = some (figI k ((i + 1 : Nat) : Int) n) := by
  unfold figsL figI
  rw [List.getElem?_map, List.getElem?_range (by rw [Int.toNat_natCast]; exact hi)]
  show some (Builtin.bitAnd (n / 2 ^ _) 1) = _
  congr 4
  omega
theorem figs_len {k : Nat} {n : Int} : (figsL k n).length = k := by unfold figsL; rw [List.length_map, List.length_range, Int.toNat_natCast]
def mixN (k e x t : Nat) : Nat := (numL ((figsL k e).take (t - 1) ++ (figsL k x).drop t)).toNat
theorem mix_eq {k e x l t : Nat} (t1 : 1 ≤ t) (tk : t ≤ k) (h1 : ∀ u : Nat, 1 ≤ u → u < t → figI k u l = figI k u e) (h2 : ∀ u : Nat, t < u → u ≤ k → figI k u l = figI k u x) : nN k t l = mixN k e x t := by
  unfold nN numsL mixN
  have a : (figsL k (l : Int)).take (t - 1) = (figsL k (e : Int)).take (t - 1) := by
    refine List.ext_getElem? fun i => ?_
    by_cases hi : i < t - 1
    · rw [List.getElem?_take_of_lt hi, List.getElem?_take_of_lt hi, figs_at (by omega), figs_at (by omega), h1 (i + 1) (by omega) (by omega)]
    · rw [List.getElem?_eq_none (by rw [List.length_take]; omega), List.getElem?_eq_none (by rw [List.length_take]; omega)]
  have b : (figsL k (l : Int)).drop t = (figsL k (x : Int)).drop t := by
    refine List.ext_getElem? fun i => ?_
    rw [List.getElem?_drop, List.getElem?_drop]
    by_cases hi : t + i < k
    · rw [figs_at hi, figs_at hi, h2 (t + i + 1) (by omega) (by omega)]
    · rw [List.getElem?_eq_none (by rw [figs_len]; omega), List.getElem?_eq_none (by rw [figs_len]; omega)]
  rw [a, b]
def fstI (rows : List (List Int)) (t n : Nat) : Int := (rows.getD (t - 1) []).getD n 0
def inO (k : Nat) (rows : List (List Int)) (s l : Nat) : List Nat := [wfN k s l (fstI rows s (nN k s l)), wfN k s l (1 - fstI rows s (nN k s l))]
def ordL (k : Nat) (rows : List (List Int)) (e : Nat) : Nat → List Nat
  | 0 => [e]
  | n + 1 => (ordL k rows e n).flatMap (inO k rows (k - n))
def Ahead (k : Nat) (rows : List (List Int)) (e m x y : Nat) : Prop := ∃ t : Nat, m < t ∧ t ≤ k ∧ figI k t x ≠ figI k t y ∧ (∀ u : Nat, t < u → u ≤ k → figI k u x = figI k u y) ∧ figI k t x = fstI rows t (mixN k e x t)
theorem fst01 {k t l : Nat} {rows : List (List Int)} (k4 : k ≤ 4) (hs : SetOk k rows) (t1 : 1 ≤ t) (tk : t ≤ k) (hl : l < 2 ^ k) : fstI rows t (nN k t l) = 0 ∨ fstI rows t (nN k t l) = 1 := by
  have b := hs.bits (show t - 1 < k by omega)
  have O := oneF k4 t1 tk hl
  exact b.2 _ (List.mem_of_getElem? (getD_of (by rw [b.1]; exact O.lt)))
structure OrdF (k : Nat) (rows : List (List Int)) (e n : Nat) (L : List Nat) : Prop where
  len : L.length = 2 ^ n
  mem : ∀ x ∈ L, x < 2 ^ k ∧ ∀ t : Nat, 1 ≤ t → t ≤ k - n → figI k t x = figI k t e
  all : ∀ x : Nat, x < 2 ^ k → (∀ t : Nat, 1 ≤ t → t ≤ k - n → figI k t x = figI k t e) → x ∈ L
  row : L.Pairwise (Ahead k rows e (k - n))
theorem len2 {f : Nat → List Nat} (h : ∀ a, (f a).length = 2) : ∀ l : List Nat, (l.flatMap f).length = l.length * 2
  | [] => rfl
  | a :: l => by rw [List.flatMap_cons, List.length_append, h, len2 h l, List.length_cons]; omega
theorem ordF {k e : Nat} {rows : List (List Int)} (k4 : k ≤ 4) (hs : SetOk k rows) (he : e < 2 ^ k) : ∀ n, n ≤ k → OrdF k rows e n (ordL k rows e n)
  | 0, _ => by
    refine ⟨rfl, fun x hx => ?_, fun x hx h => ?_, List.pairwise_singleton _ _⟩
    · rw [List.mem_singleton.mp hx]; exact ⟨he, fun _ _ _ => rfl⟩
    · rw [fig_inj k4 hx he fun t a b => h t a (by omega)]; exact List.mem_singleton.mpr rfl
  | n + 1, hn => by
    have ih := ordF (rows := rows) k4 hs he n (by omega)
    have s1 : 1 ≤ k - n := by omega
    have s2 : k - n ≤ k := by omega
    have mx : ∀ a ∈ ordL k rows e n, ∀ x ∈ inO k rows (k - n) a, ∃ w : Int, (w = 0 ∨ w = 1) ∧ x = wfN k (k - n) a w := by
      intro a ha x hx
      have f := fst01 k4 hs s1 s2 (ih.mem a ha).1
      unfold inO at hx
      rcases List.mem_cons.mp hx with rfl | hx
      · exact ⟨_, f, rfl⟩
      · rw [List.mem_singleton.mp hx]
        exact ⟨_, by omega, rfl⟩
    refine ⟨?_, fun x hx => ?_, fun x hx h => ?_, ?_⟩
    · show ((ordL k rows e n).flatMap (inO k rows (k - n))).length = _
      rw [len2 (fun _ => rfl), ih.len, Nat.pow_succ]
    · obtain ⟨a, ha, hxa⟩ := List.mem_flatMap.mp hx
      obtain ⟨w, hw, rfl⟩ := mx a ha x hxa
      have W := wfF k4 s1 s2 (ih.mem a ha).1 hw
      exact ⟨W.lt, fun t t1 t2 => by rw [W.off t (by omega) (by omega)]; exact (ih.mem a ha).2 t t1 (by omega)⟩
    · have W := wfF k4 s1 s2 hx (fig01 (l := e) k4 s2 he)
      have ha := ih.all (wfN k (k - n) x (figI k ((k - n : Nat) : Int) e)) W.lt fun t t1 t2 => by
        by_cases c : t = k - n
        · rw [c]; exact W.at_
        · rw [W.off t (by omega) c]; exact h t t1 (by omega)
      refine List.mem_flatMap.mpr ⟨_, ha, ?_⟩
      have f := fst01 k4 hs s1 s2 W.lt
      have g := fig01 (l := x) k4 s2 hx
      have V2 := wfF k4 s1 s2 W.lt g
      have ex : x = wfN k (k - n) (wfN k (k - n) x (figI k ((k - n : Nat) : Int) e)) (figI k ((k - n : Nat) : Int) x) := by
        refine fig_inj k4 hx V2.lt fun t t1 t2 => ?_
        by_cases c : t = k - n
        · rw [c]; exact V2.at_.symm
        · rw [V2.off t t2 c, W.off t t2 c]
      unfold inO
      by_cases c : figI k ((k - n : Nat) : Int) x = fstI rows (k - n) (nN k (k - n) (wfN k (k - n) x (figI k ((k - n : Nat) : Int) e)))
      · rw [← c, ← ex]; simp
      · have c2 : figI k ((k - n : Nat) : Int) x = 1 - fstI rows (k - n) (nN k (k - n) (wfN k (k - n) x (figI k ((k - n : Nat) : Int) e))) := by omega
        rw [← c2, ← ex]; simp
    · show ((ordL k rows e n).flatMap (inO k rows (k - n))).Pairwise _
      refine List.pairwise_flatMap.mpr ⟨fun a ha => ?_, ?_⟩
      · have f := fst01 k4 hs s1 s2 (ih.mem a ha).1
        have A1 := wfF k4 s1 s2 (ih.mem a ha).1 f
        have A2 := wfF k4 s1 s2 (ih.mem a ha).1 (show 1 - fstI rows (k - n) (nN k (k - n) a) = 0 ∨ 1 - fstI rows (k - n) (nN k (k - n) a) = 1 by omega)
        unfold inO
        refine List.pairwise_cons.mpr ⟨fun y hy => ?_, List.pairwise_singleton _ _⟩
        rw [List.mem_singleton.mp hy]
        refine ⟨k - n, by omega, s2, by rw [A1.at_, A2.at_]; omega, fun u u1 u2 => by rw [A1.off u u2 (by omega), A2.off u u2 (by omega)], ?_⟩
        rw [A1.at_]
        congr 1
        exact mix_eq s1 s2 (fun u u1 u2 => (ih.mem a ha).2 u u1 (by omega)) fun u u1 u2 => (A1.off u u2 (by omega)).symm
      · refine ih.row.imp_of_mem fun {a b} ha hb hab x hx y hy => ?_
        obtain ⟨w, hw, rfl⟩ := mx a ha x hx
        obtain ⟨v, hv, rfl⟩ := mx b hb y hy
        have A1 := wfF k4 s1 s2 (ih.mem a ha).1 hw
        have A2 := wfF k4 s1 s2 (ih.mem b hb).1 hv
        obtain ⟨t, t1, t2, t3, t4, t5⟩ := hab
        refine ⟨t, by omega, t2, by rw [A1.off t t2 (by omega), A2.off t t2 (by omega)]; exact t3, fun u u1 u2 => by rw [A1.off u u2 (by omega), A2.off u u2 (by omega)]; exact t4 u u1 u2, ?_⟩
        rw [A1.off t t2 (by omega), t5]
        unfold mixN
        congr 4
        refine List.ext_getElem? fun i => ?_
        rw [List.getElem?_drop, List.getElem?_drop]
        by_cases hi : t + i < k
        · rw [figs_at hi, figs_at hi, A1.off (t + i + 1) (by omega) (by omega)]
        · rw [List.getElem?_eq_none (by rw [figs_len]; omega), List.getElem?_eq_none (by rw [figs_len]; omega)]
theorem ord_perm {k e : Nat} {rows : List (List Int)} (k4 : k ≤ 4) (hs : SetOk k rows) (he : e < 2 ^ k) : (ordL k rows e k).Perm (List.range (2 ^ k)) := by
  have F := ordF (rows := rows) k4 hs he k (Nat.le_refl k)
  refine (List.perm_ext_iff_of_nodup ?_ List.nodup_range).mpr fun x => ⟨fun hx => List.mem_range.mpr (F.mem x hx).1, fun hx => F.all x (List.mem_range.mp hx) fun t t1 t2 => by omega⟩
  exact F.row.imp fun ⟨t, _, _, h, _⟩ e => h (by rw [e])
end L3

namespace L3
open PySem PySem.Spec PyProof.Rows L2
section
variable {lo : Int} {n k : Nat} {tt : TT} {te : TE} {Q : VK} {σ : L2.St} {H : Hp}
end
def NatsT (K : PySem.W.Frag) (H : Hp) (x : V) (gs : List Nat) : Prop := ∃ r, x = .ref r ∧ SqT K H r (natsV gs)
def sp_in_order (K : PySem.W.Frag) : Sp := sp4 fun x y z u H Q => ∃ (k st l : Nat) (rows : List (List Int)), x = .int k ∧ y = .int st ∧ z = .int l ∧ RowsAt K H u rows ∧ k ≤ 4 ∧ 1 ≤ st ∧ st ≤ k ∧ l < 2 ^ k ∧ SetOk k rows ∧ ∀ y H', Grow [] H H' → NatsT K H' y (inO k rows st l) → Q y H'
def sp_firsts (K : PySem.W.Frag) : Sp := sp2 fun x y H Q => ∃ (a : Addr) (k : Nat), x = .ref a ∧ y = .int k ∧ k ≤ 4 ∧ Pot H a ∧ ∀ y rows H', Grow [a] H H' → Pot H' a → RowsAt K H' y rows → SetOk k rows → Q y H'
theorem half_fd {k : Nat} (h : k ≤ 4) : (1 : Int) * 2 ^ ((k : Int)).toNat / 2 = ((2 ^ k / 2 : Nat) : Int) := by
  have key : ∀ k : Fin 5, (1 : Int) * 2 ^ ((k.val : Int)).toNat / 2 = ((2 ^ k.val / 2 : Nat) : Int) := by decide
  exact key ⟨k, by omega⟩
end L3

namespace L3
open PySem PySem.Spec PyProof.Rows L2
def LsR (H : Hp) (x : V) (row : List Int) : Prop := ∃ r, x = .ref r ∧ H r = some (.lst (row.map V.int))
def LsB (H : Hp) (x : V) (rows : List (List Int)) : Prop := ∃ l xs, x = .ref l ∧ H l = some (.lst xs) ∧ AllR (LsR H) xs rows
def LsN (a : Addr) (H : Hp) (x : V) (row : List Int) : Prop := ∃ r, x = .ref r ∧ r ∉ [a] ∧ H r = some (.lst (row.map V.int))
def LsA (a : Addr) (H : Hp) (x : V) (rows : List (List Int)) : Prop := ∃ l xs, x = .ref l ∧ l ∉ [a] ∧ H l = some (.lst xs) ∧ AllR (LsN a H) xs rows
theorem LsA.b {a : Addr} {H : Hp} {x : V} {rows : List (List Int)} (h : LsA a H x rows) : LsB H x rows := by
  obtain ⟨l, xs, e, n, z, w⟩ := h
  exact ⟨l, xs, e, z, w.imp fun _ _ ⟨r, e, _, z⟩ => ⟨r, e, z⟩⟩
end L3

namespace L3
open PySem PySem.Spec PyProof.Rows L2
end L3

namespace L3
open PySem PySem.Spec PyProof.Rows L2
section
variable {X : Cx}
theorem preSum_ints (ns : List Int) : ∀ n, n ≤ ns.length → preSum (fun i => ns.getD i 0) n = (ns.take n).sum := by
  intro n
  induction n with
  | zero => intro _; rfl
  | succ n ih =>
    intro h
    show preSum (fun i => ns.getD i 0) n + ns.getD n 0 = _
    rw [ih (by omega), List.take_succ, List.sum_append, List.getD_eq_getElem?_getD, List.getElem?_eq_getElem (show n < ns.length by omega)]
    simp
theorem call_sumI (hcalm : X.calm = true) : CallR X (.builtin "sum") (fun xs H Q => ∃ (l : Addr) (ns : List Int), xs = [.ref l] ∧ SqL X.K H l (ns.map V.int) ∧ Q (.int ns.sum) H) := by
  intro pins s σ H xs us Q I r h
  obtain ⟨l, ns, rfl, hl, q⟩ := h
  obtain ⟨u, rfl, rx⟩ := vals1 r
  cases (show u = Value.ref l from rx)
  obtain ⟨vs, rv, pl, _⟩ := I.list hl
  have hl' : s.heap.IsList l vs.toArray := pl.isList
  have hlt : l < s.heap.objs.size := by obtain ⟨_, e, _⟩ := hl'; exact Heap.lt_size e
  have hlen : ns.length = vs.length := by rw [← rv.length, List.length_map]
  refine call_sum_walkG (wpAny_pyIter_list hl' ?_)
  refine ⟨s.heap.objs.size, [s.heap.objs.size, l], [s.heap.objs.size], vs.toArray.size, _, _, fun i => ns.getD i 0, rfl, Walks.list (A := X.A.in1) (I.ok.hd hcalm) _ l (Nat.ne_of_lt hlt) vs.toArray,
    ⟨⟨_, Heap.get?_push_size _ rfl, rfl, rfl⟩, hl'.push _⟩, fun b hb => ?_, fun i v hP => ?_, fun h' tk t' hk => ?_⟩
  · rcases List.mem_cons.mp hb with rfl | hb
    · exact Heap.lt_size (Heap.get?_push_size _ rfl)
    · rcases List.mem_cons.mp hb with rfl | hb
      · exact Nat.lt_trans hlt (Heap.lt_size (Heap.get?_push_size _ rfl))
      · cases hb
  · have hv : vs[i]? = some v := by simpa using hP
    have hi : i < ns.length := by rw [hlen]; exact (List.getElem?_eq_some_iff.mp hv).1
    obtain ⟨u, eu, rxv⟩ := rv.get (show (ns.map V.int)[i]? = some (V.int ns[i]) by rw [List.getElem?_map, List.getElem?_eq_getElem hi]; rfl)
    rw [hv] at eu; cases eu
    obtain ⟨t, rfl⟩ := rxv
    exact ⟨t, by show _ = Value.int (ns.getD i 0) t; rw [List.getD_eq_getElem?_getD, List.getElem?_eq_getElem hi]; rfl⟩
  · have e : preSum (fun i => ns.getD i 0) vs.toArray.size = ns.sum := by
      rw [List.size_toArray, ← hlen, preSum_ints ns _ (Nat.le_refl _), List.take_length]
    rw [e]
    exact ⟨.int ns.sum, H, I.kept (t' := tk) (h' := h') (LSm.kept_iter hk), ⟨_, rfl⟩, q⟩
end
end L3
namespace L3
open PySem PySem.Spec PyProof.Rows L2
end L3

namespace L3
open PySem PySem.Spec PyProof.Rows L2
section
variable {X : Cx}
end
end L3

namespace L3
open PySem PySem.Spec PyProof.Rows L2
end L3

namespace L3
open PySem PySem.Spec PyProof.Rows L2
section
variable {X : Cx} {K : PySem.W.Frag}
end
end L3

namespace L3
open PySem PySem.Spec PyProof.Rows L2
section
variable {prog : Program} {w : World} {A : Around} {E : Value → Shared → Prop} {s : Shared}
end
end L3

namespace L3
open PySem PySem.Spec PyProof.Rows L2
section
variable {prog : Program} {w : World} {A : Around} {E : Value → Shared → Prop} {s : Shared}
end
section
variable {X : Cx} {nm : Str} {pt : Pos} {K : PySem.W.Frag}
end
end L3

namespace L3
open PySem PySem.Spec PyProof.Rows L2
section
variable {X : Cx} {K : PySem.W.Frag}
end
section
variable {X : Cx}
end
section
variable {lo : Int} {n k : Nat} {te : TE} {Q : VK} {σ : L2.St} {H : Hp}
end
end L3

namespace L3
open PySem PySem.Spec PyProof.Rows L2
def RowsIn (K : PySem.W.Frag) (H : Hp) (f : Addr) (rows : List (List Int)) : Prop := ∃ xs, H f = some (.lst xs) ∧ AllR (BoardAt K H) xs rows
theorem RowsIn.grow {K : PySem.W.Frag} {H H' : Hp} {f : Addr} {rows : List (List Int)} (h : RowsIn K H f rows) (g : Grow [] H H') : RowsIn K H' f rows := by
  obtain ⟨xs, e, a⟩ := h
  exact ⟨xs, g.keep _ _ (by simp) e, g.boardsR a⟩
theorem RowsIn.ne {K : PySem.W.Frag} {H : Hp} {f r : Addr} {rows : List (List Int)} (h : RowsIn K H f rows) (e : H r = none) : r ≠ f := by
  obtain ⟨xs, e', _⟩ := h
  intro z; rw [z, e'] at e; cases e
end L3
namespace L3
open PySem PySem.Spec PyProof.Rows L2
end L3
namespace L3
open PySem PySem.Spec PyProof.Rows L2
theorem RowsIn.set {K : PySem.W.Frag} {H : Hp} {f : Addr} {rows : List (List Int)} {xs : List V} (e : H f = some (.lst xs)) (a : AllR (BoardAt K H) xs rows) : RowsIn K H f rows := ⟨xs, e, a⟩
end L3
namespace L3
open PySem PySem.Spec PyProof.Rows L2
end L3

namespace L3
open PySem PySem.Spec PyProof.Rows L2
structure CScC (X : Cx) (scope : Scope) (N' : List Str) (sub : List (Option Nat)) : Prop where
  free : ∀ y ∈ scope.names, y.2 = .free → X.env.kindOf y.1 = some .cell
  nd : (scope.names.map (·.1)).Nodup
  kind : scope.kind = .function
  names : ∀ y ∈ scope.names, y.2 = .local → scope.names.lookup y.1 = some .local
  len : sub.length = N'.length
  cap : ∀ (j : Nat) (y : Str) (i : Nat), N'[j]? = some y → sub[j]? = some (some i) → X.N[i]? = some y ∧ X.env.scope.names.lookup y = some .cell ∧ scope.names.lookup y = some .free
section
variable {X : Cx} {pins : List (Addr × Obj)} {σ : L2.St} {H2 : Hp} {s₂ : Shared} {it : Addr} {fp : List Addr} {tn : Nat → Heap → Prop} {J : It} {scope : Scope} {cl : List (Str × Addr)} {N' : List Str} {sub : List (Option Nat)}
end
section
variable {X : Cx} {scope : Scope} {N' : List Str} {sub : List (Option Nat)} {tg : Expr} {pos : Pos} {elt iter : Expr} {ifs : List Expr} {wi : TI} {g : TG} {tt : TT} {te : TE}
theorem CScC.clos {pins : List (Addr × Obj)} {σ : L2.St} {H : Hp} {s : Shared} (S : CScC X scope N' sub) (I : Inv X pins σ H s) : ∃ cl, closureFor scope X.env = pure cl ∧ (∀ x c, cl.lookup x = some c → X.env.cells.lookup x = some c) ∧ ∀ y ∈ scope.names, y.2 = .free → ∃ c, cl.lookup y.1 = some c :=
  closure_ok fun y hy hf => I.ok.has y.1 (.inl (S.free y hy hf))
end
end L3

namespace L3
open PySem PySem.Spec PyProof.Rows L2
theorem CScC.of {X : Cx} {scope : Scope} {N' : List Str} {sub : List (Option Nat)} (sc : Scope) (NN : List Str) (e : X.env.scope = sc) (en : X.N = NN)
    (h : ((scope.names.all fun y => (y.2 != .free || sc.names.lookup y.1 == some .cell) && (y.2 != .local || scope.names.lookup y.1 == some .local)) && (sub.length == N'.length) &&
      ((N'.zip sub).all fun p => match p.2 with | none => true | some i => NN[i]? == some p.1 && sc.names.lookup p.1 == some .cell && scope.names.lookup p.1 == some .free)) = true)
    (nd : (scope.names.map (·.1)).Nodup) (hk : scope.kind = .function) : CScC X scope N' sub := by
  rw [Bool.and_eq_true, Bool.and_eq_true] at h
  obtain ⟨⟨h1, h2⟩, h3⟩ := h
  have k1 := fun y hy => List.all_eq_true.mp h1 y hy
  refine ⟨fun y hy hf => ?_, nd, hk, fun y hy hl => ?_, by simpa using h2, fun j y i hj hs => ?_⟩
  · have := k1 y hy
    simp only [hf, Bool.and_eq_true] at this
    have z := this.1
    show X.env.scope.names.lookup y.1 = _
    rw [e]; simpa using z
  · have := k1 y hy
    simp only [hl, Bool.and_eq_true] at this
    simpa using this.2
  · have hm : (y, some i) ∈ N'.zip sub := by
      have : (N'.zip sub)[j]? = some (y, some i) := by
        rw [List.getElem?_zip_eq_some]; exact ⟨hj, hs⟩
      exact List.mem_of_getElem? this
    have := List.all_eq_true.mp h3 _ hm
    simp only [Bool.and_eq_true, beq_iff_eq] at this
    rw [e, en]
    exact ⟨this.1.1, this.1.2, this.2⟩
end L3

namespace L3
open PySem PySem.Spec PyProof.Rows L2
theorem AllOk.at {ds : List Deed} (h : AllOk ds) {i : Nat} (hi : i < ds.length) : (ds.getD i look).Ok := h _ (List.mem_of_getElem? (getDd hi))
structure MixOk (m : List Nat) : Prop where
  nd : m.Nodup
  lt : ∀ j ∈ m, j < m.length
  has : ∀ j, j < m.length → j ∈ m
theorem MixOk.of {m : List Nat} {n : Nat} (h : m.Perm (List.range n)) : MixOk m ∧ m.length = n := by
  have hl : m.length = n := by rw [h.length_eq, List.length_range]
  refine ⟨⟨(h.nodup_iff).mpr List.nodup_range, fun j hj => ?_, fun j hj => ?_⟩, hl⟩
  · rw [hl]; exact List.mem_range.mp (h.mem_iff.mp hj)
  · exact h.mem_iff.mpr (List.mem_range.mpr (by omega))
theorem MixOk.at {m : List Nat} (h : MixOk m) {j : Nat} (hj : j < m.length) : m.idxOf j < m.length ∧ m.getD (m.idxOf j) 0 = j := by
  have hl := List.idxOf_lt_length_of_mem (h.has j hj)
  refine ⟨hl, ?_⟩
  rw [List.getD_eq_getElem?_getD, List.getElem?_eq_getElem hl]
  exact List.getElem_idxOf hl
end L3

namespace L3
open PySem PySem.Spec PyProof.Rows L2
section
variable {X : Cx} {K : PySem.W.Frag}
theorem mt_insert : MtM X "list.insert" (fun x vs H Q => ∃ (l : Addr) (xs : List V) (i : Nat) (y : V), x = .ref l ∧ vs = [.int i, y] ∧ H l = some (.lst xs) ∧ i ≤ xs.length ∧ xs.length < sizeLine ∧ Q .non (upd H l (.lst (xs.take i ++ [y] ++ xs.drop i)))) := by
  intro pins s σ H x vs v us Q I rx rv h
  obtain ⟨l, xs, i, y, rfl, rfl, hH, hi, hz, q⟩ := h
  cases rx
  obtain ⟨u, u2, rfl, ⟨t, rfl⟩, ru⟩ := vals2 rv
  obtain ⟨z, its, n, r, hl, e⟩ := I.lstM hH
  have hn := line63
  have sz : its.toArray.size ≤ sizeLine := by rw [List.size_toArray]; omega
  have key : ∀ (x : Int), x = (i : Int) → wpAny (model X.prog X.w) X.A (call (.builtin "list.insert") (.ref l :: [.int x t, u2])) (EP X pins σ Q) X.xe s := by
    intro x hx
    have hfit : ¬ (!Builtin.List.listFitsIndex x) = true := by
      unfold Builtin.List.listFitsIndex
      simp only [Bool.not_eq_true', Bool.not_eq_false, Bool.and_eq_true, decide_eq_true_eq]
      omega
    refine call_meets F.slot_list_insert ⟨_, e, rfl⟩ F.entry_list_insert (F.args_list_insert_3 _ _ _) (PySem.AutoListH.list_insert_list_int_val_1 l its.toArray n x t u2 hfit sz) ⟨e, ?_⟩
    refine ⟨.non, _, I.lset (its' := its.take i ++ [u2] ++ its.drop i) hH e ?_ ?_ ?_, rfl, q⟩
    · rw [if_neg (by omega), hx, Int.toNat_natCast, List.size_toArray, Nat.min_eq_left (by omega)]
      apply Array.ext'
      simp [List.take_of_length_le]
    · exact ((r.take i).append (.cons ru .nil)).append (r.drop i)
    · rw [List.length_append, List.length_append, List.length_take, List.length_drop, List.length_singleton]
      omega
  exact key _ rfl
end
end L3
namespace L3
open PySem PySem.Spec PyProof.Rows L2
end L3

namespace L3
open PySem PySem.Spec PyProof.Rows L2
structure WkD (prog : Program) (w : World) (A : Around) (T : String) (I : Addr) (n : Nat) (Fr : Addr → Prop) (J : List Value → Shared → Prop) (Fn : List Value → Shared → Prop) : Prop where
  ty : ∀ acc s, J acc s → s.TypeIs (.ref I) T
  self : ∀ acc s (Q : Value → Shared → Prop) (E : Value → Shared → Prop), J acc s → Q (.ref I) s → wpAny (model prog w) A (pyIter (.ref I)) Q E s
  stay : ∀ acc s (S : Addr) (ob : Obj) (h' : Heap), J acc s → Fr S → s.heap.get? S = some ob → (ob.cls = .type "list" ∧ ∀ v, ob.data ≠ .cell v) → (∀ b o, b ≠ S → s.heap.get? b = some o → h'.get? b = some o) → h'.objs.size = s.heap.objs.size → J acc { s with heap := h' }
  next : ∀ acc s (S : Addr) (ob : Obj) (Q : Option Value → Shared → Prop) (E : Value → Shared → Prop), J acc s → Fr S → s.heap.get? S = some ob → (ob.cls = .type "list" ∧ ∀ v, ob.data ≠ .cell v) →
    (∀ v s', acc.length < n → J (acc ++ [v]) s' → s'.heap.get? S = some ob → Q (some v) s') → (∀ s', Fn acc s' → s'.heap.get? S = some ob → Q none s') → wpAny (model prog w) A (pyNext (.ref I)) Q E s
  push : ∀ acc s (o : Obj), J acc s → J acc { s with heap := s.heap.push o }
section
variable {prog : Program} {w : World} {A : Around} {R : Result → Shared → Prop} {T : String} {I : Addr} {n : Nat} {Fr : Addr → Prop} {J Fn : List Value → Shared → Prop}
end
section
variable {prog : Program} {w : World} {A : Around} {E : Value → Shared → Prop} {s : Shared} {T : String} {I : Addr} {n : Nat} {Fr : Addr → Prop} {J Fn : List Value → Shared → Prop}
end
section
variable {X : Cx} {pins : List (Addr × Obj)} {σ : L2.St} {fp : List Addr} {it : Addr} {tn : Nat → Heap → Prop} {Jt : It} {nm : Str} {pt : Pos} {cls : String} {H0 : Hp} {S0 : Addr} {n : Nat}
end
section
variable {X : Cx} {K : PySem.W.Frag} {a b : Expr} {ta : TA} {p p2 pos pos2 : Pos}
theorem SqC.grow {c : Bool} {H H' : Hp} {a : Addr} {xs : List V} (g : Grow [] H H') (h : SqC c K H a xs) : SqC c K H' a xs := by
  cases c
  · exact g.sqL h
  · exact g.sqT h
end
end L3

namespace L3
open PySem PySem.Spec PyProof.Rows L2 HT
section
variable {prog : Program} {w : World} {A : Around} {E : Value → Shared → Prop} {s : Shared}
end
section
variable {X : Cx} {K : PySem.W.Frag}
end
end L3

namespace L3
open PySem PySem.Spec PyProof.Rows L2
end L3
namespace L3
open PySem PySem.Spec PyProof.Rows L2
end L3
namespace L3
open PySem PySem.Spec PyProof.Rows L2
end L3

namespace L3
open PySem PySem.Spec PyProof.Rows L2
def MCallee (P : Program) (w : World) (K : PySem.W.Frag) (mg : Str → Option Value) (base : Heap) (C : Addr) (k : Nat) (m : Str) (ps : List Str) (sp : Sp) : Prop :=
  ∃ (f : Addr) (fd : FuncData), FnOk P w K mg base CX0 k f fd ps sp ∧ Binds K fd ps [] ∧ Meth K C m f
def MkCallee (P : Program) (w : World) (K : PySem.W.Frag) (mg : Str → Option Value) (base : Heap) (C : Addr) (k : Nat) (ps : List Str) (sp : Sp) : Prop :=
  ∃ (j : Nat) (f : Addr) (fd : FuncData), j + 1 = k ∧ FnOk P w K mg base CX0 j f fd ps sp ∧ Binds K fd ps [] ∧ Mk K C f
section
variable {P : Program} {w : World} {K : PySem.W.Frag} {mg : Str → Option Value} {base : Heap} {C : Addr} {j k : Nat} {m : Str} {ps : List Str} {sp : Sp}
theorem MCallee.mono (c : MCallee P w K mg base C j m ps sp) (h : j ≤ k) : MCallee P w K mg base C k m ps sp := by
  obtain ⟨f, fd, F, b, mt⟩ := c
  exact ⟨f, fd, F.mono h, b, mt⟩
theorem MkCallee.mono (c : MkCallee P w K mg base C j ps sp) (h : j ≤ k) : MkCallee P w K mg base C k ps sp := by
  obtain ⟨i, f, fd, e, F, b, mt⟩ := c
  exact ⟨k - 1, f, fd, by omega, F.mono (by omega), b, mt⟩
end
section
variable {X : Cx} {K : PySem.W.Frag} {C : Addr} {k : Nat} {m x : Str} {ps : List Str} {sp : Sp} {o e : Expr} {es : List Expr} {ta : TE} {t : TA} {apos pos p : Pos} {f : Str}
end
structure CTxt (K : PySem.W.Frag) (mg : Str → Option Value) (C : Addr) : Prop where
  cl : Cls K C
  n1 : NoAttr K C "depth"
  n2 : NoAttr K C "gates"
  n3 : NoAttr K C "out_lines"
  n4 : NoAttr K C "ups"
  n5 : NoAttr K C "tokens"
  n6 : NoAttr K C "came_out"
  n7 : NoAttr K C "given"
  mgC : mg "Counter" = some (.ref C)
end L3

namespace L3
open PySem PySem.Spec PyProof.Rows L2
section
variable {X : Cx} {K : PySem.W.Frag}
def FrT (H : Hp) (r : Addr) (xs : List V) : Prop := ∃ o : Obj, H r = some (.frz o (.tup xs)) ∧ o.cls = .type "tuple" ∧ o.dict = none
theorem FrT.sqT {H : Hp} {r : Addr} {xs : List V} (h : FrT H r xs) : SqT K H r xs := by
  obtain ⟨o, e, _⟩ := h
  exact .inl (.inr ⟨o, e⟩)
end
end L3

namespace L3
open PySem PySem.Spec PyProof.Rows L2
def Trc (h : Heap) (e T : Addr) (cls : Value) : Prop :=
  ∃ oe vs oT ts, h.get? e = some oe ∧ oe.cls = cls ∧ oe.data = .fields vs ∧ vs[1]? = some (.ref T) ∧ T ≠ e ∧ h.get? T = some oT ∧ oT.data = .fields ts ∧ ts[3]? = some .none ∧ vs[2]? = some .none
structure Lft (fr : List Addr) (e T0 T : Addr) (cls : Value) (h h' : Heap) : Prop where
  keep : ∀ b o, b ∉ fr → b ≠ e → b ≠ T0 → h.get? b = some o → h'.get? b = some o
  slot : ∀ b o, b ∈ fr → b ≠ e → b ≠ T0 → h.get? b = some o → ∃ sl, h'.get? b = some { o with slots := sl }
  new : h.get? T = none
  trc : Trc h' e T cls
section
variable {M : Model} {A : Around} {E : Value → Shared → Prop} {s : Shared}
end
end L3

namespace L3
open PySem PySem.Spec PyProof.Rows L2
def CX1 (P : Program) (w : World) : CXT := fun outer H s E e s' => ∃ (a T C : Addr) (H' : Hp), e = .ref a ∧ s'.os = s.os ∧ AllBare s'.gens ∧ Un (frs outer) [] H H' s.heap s'.heap ∧ HOk P w H' s'.heap ∧
  Trc s'.heap a T (.ref C) ∧ H' a = none ∧ H' T = none ∧ s.heap.get? a = none ∧ s.heap.get? T = none ∧ E e (some C) H'
theorem ObjOk.at {P : Program} {w : World} {H : Hp} {h : Heap} {a : Addr} {o : HO} (x : ObjOk P w H h a o) : ∃ ob, h.get? a = some ob := by
  induction o with
  | lst xs => obtain ⟨z, its, n, r, e⟩ := x; exact ⟨_, e⟩
  | tup xs => obtain ⟨z, its, r, ob, e, c⟩ := x; exact ⟨_, e⟩
  | dK kvs => obtain ⟨z, y, vs, r, ob, es, ep, e, c⟩ := x; exact ⟨_, e⟩
  | dT kvs => obtain ⟨z, y, xs, r, ob, es, ep, e, c⟩ := x; exact ⟨_, e⟩
  | set S n => obtain ⟨ob, es, ep, t, e, c⟩ := x; exact ⟨_, e⟩
  | ins C dx fs => obtain ⟨d, z, ne, e, _⟩ := x; exact ⟨_, e⟩
  | own y => exact x
  | xd fs => obtain ⟨mA, ⟨od, es, ep, e, c⟩, r⟩ := x; exact ⟨_, e⟩
  | rng lo hi => obtain ⟨t, u, v, e⟩ := x; exact ⟨_, e⟩
  | frz ob u ih => exact ⟨_, x.1⟩
  | tbl ps => exact ⟨_, x⟩
  | met f y => exact ⟨_, x⟩
  | ext φ => exact x.2.1
section
variable {P : Program} {w : World} {K : PySem.W.Frag} {mg : Str → Option Value} {base : Heap} {N : List Str} {qual : Str} {scope : Scope} {f : Addr} {cd : Value} {A : Around} {outer : List Env} {s0 : Shared} {H0 : Hp} {E : XK}
  {pins : List (Addr × Obj)} {σ : L2.St} {H : Hp} {s : Shared}
end
end L3

namespace L3
open PySem PySem.Spec PyProof.Rows L2
abbrev veM : List Value := [.type "ValueError", .type "Exception", .type "BaseException", .type "object"]
def ExcC (K : PySem.W.Frag) (mg : Str → Option Value) (x : Str) (C : Addr) : Prop := ∀ h : Heap, K.In h → OwnCls x C veM "ValueError.__new__" mg h
section
variable {X : Cx} {x : Str} {C : Addr} {np cpos pos : Pos} {e₀ : Expr} {te : TE} {E : XK}
end
section
variable {P : Program} {w : World} {K : PySem.W.Frag} {mg : Str → Option Value} {base : Heap} {N : List Str} {qual : Str} {scope : Scope} {f : Addr} {cd : Value} {A : Around} {outer : List Env} {s0 : Shared} {H0 : Hp} {E : XK}
end
end L3

namespace L3
open PySem PySem.Spec PyProof.Rows L2
section
variable {M : Model} {A : Around} {E : Value → Shared → Prop} {s : Shared}
end
structure ApX (X : Cx) (pins : List (Addr × Obj)) (H : Hp) (a T : Addr) : Prop where
  s0 : ∀ b o, X.s₀.heap.get? b = some o → b ≠ a ∧ b ≠ T
  loc : X.env.locals ≠ a ∧ X.env.locals ≠ T
  cel : ∀ x c, X.env.cells.lookup x = some c → c ≠ a ∧ c ≠ T
  pin : ∀ p ∈ X.pn ++ pins, p.1 ≠ a ∧ p.1 ≠ T
  ha : H a = none
  hT : H T = none
theorem ApX.of {X : Cx} {pins : List (Addr × Obj)} {σ : L2.St} {H H' : Hp} {s : Shared} {a T : Addr} (I : Inv X pins σ H s) (hx : X.ex = []) (na : s.heap.get? a = none) (nT : s.heap.get? T = none) (ha : H' a = none) (hT : H' T = none) : ApX X pins H' a T := by
  have ne : ∀ b o, s.heap.get? b = some o → b ≠ a ∧ b ≠ T := fun b o hb => ⟨fun z => (by rw [z, na] at hb; cases hb), fun z => (by rw [z, nT] at hb; cases hb)⟩
  refine ⟨fun b o hb => ?_, ?_, fun x c hc => ?_, fun p hp => ne _ _ (I.pin p hp).1, ha, hT⟩
  · obtain ⟨o', h1⟩ := I.base.there b o hb (by rw [hx]; simp)
    exact ne b o' h1
  · obtain ⟨m, ⟨o, es, ep, ho, _⟩, _⟩ := I.loc
    exact ne _ _ ho
  · obtain ⟨v, hv⟩ := I.cell x c hc
    obtain ⟨o, ho, _⟩ := hv
    exact ne _ _ ho
end L3

namespace L3
open PySem PySem.Spec PyProof.Rows L2
theorem Inv.leftK {X : Cx} {pins : List (Addr × Obj)} {σ : L2.St} {H : Hp} {s : Shared} {a T0 : Addr} {h2 : Heap} (I : Inv X pins σ H s) (hx : X.ex = []) (ap : ApX X pins H a T0)
    (lk : ∀ b o, b ∉ frs X.stack → b ≠ a → b ≠ T0 → s.heap.get? b = some o → h2.get? b = some o) (ls : ∀ b o, b ∈ frs X.stack → b ≠ a → b ≠ T0 → s.heap.get? b = some o → ∃ sl, h2.get? b = some { o with slots := sl }) : Inv X pins σ H { s with heap := h2 } := by
  have stk : ∀ b, b ∈ frs X.stack → b = X.env.locals ∨ b ∈ X.fs := fun b hb => List.mem_cons.mp (I.stkSub b hb)
  have any : ∀ b o, b ≠ a → b ≠ T0 → s.heap.get? b = some o → ∃ sl, h2.get? b = some { o with slots := sl } := fun b o n1 n2 ho => by
    by_cases z : b ∈ frs X.stack
    · exact ls b o z n1 n2 ho
    · exact ⟨o.slots, lk b o z n1 n2 ho⟩
  have cellK : ∀ x c, X.env.cells.lookup x = some c → ∀ v, s.heap.IsCell c v → h2.IsCell c v := fun x c e v ⟨o, ho, hd⟩ => by
    obtain ⟨n1, n2⟩ := ap.cel x c e
    obtain ⟨sl, h1⟩ := any c o n1 n2 ho
    exact ⟨_, h1, hd⟩
  refine ⟨I.ok, I.os, I.bare, ⟨fun b o hb hn hf hx' => ?_, fun b o hb hn hf hx' => ?_, I.base.free, fun b o hb hx' => ?_, I.base.tups, I.base.frzs, I.base.tbls⟩, ?_, fun x c hc => ?_, I.free, I.freeC, fun p hp => ?_, fun b u q => ?_, I.len⟩
  · obtain ⟨n1, n2⟩ := ap.s0 b o hb
    refine lk b o (fun z => ?_) n1 n2 (I.base.keep b o hb hn hf hx')
    rcases stk b z with z | z
    · exact absurd (Nat.lt_of_lt_of_le (Heap.lt_size hb) I.ok.above) (by rw [z]; exact Nat.lt_irrefl _)
    · exact hf z
  · obtain ⟨n1, n2⟩ := ap.s0 b o hb
    obtain ⟨sl, h1⟩ := I.base.slot b o hb hn hf hx'
    obtain ⟨sl', h3⟩ := any b _ n1 n2 h1
    exact ⟨sl', h3⟩
  · obtain ⟨n1, n2⟩ := ap.s0 b o hb
    obtain ⟨o', h1⟩ := I.base.there b o hb hx'
    obtain ⟨sl, h3⟩ := any b o' n1 n2 h1
    exact ⟨_, h3⟩
  · obtain ⟨m, ⟨o, es, ep, ho, r⟩, hl⟩ := I.loc
    obtain ⟨sl, h1⟩ := any _ o ap.loc.1 ap.loc.2 ho
    refine ⟨m, ⟨_, es, ep, h1, r⟩, fun i x v e1 e2 e3 => ?_⟩
    obtain ⟨u, ru, lk⟩ := hl i x v e1 e2 e3
    refine ⟨u, ru, ?_⟩
    rcases lk with lk | ⟨k1, c, k2, k3⟩
    · exact .inl lk
    · exact .inr ⟨k1, c, k2, cellK x c k2 _ k3⟩
  · obtain ⟨v, hv⟩ := I.cell x c hc
    exact ⟨v, cellK x c hc v hv⟩
  · obtain ⟨p1, p2, p3, p4, p5⟩ := I.pin p hp
    obtain ⟨n1, n2⟩ := ap.pin p hp
    refine ⟨lk _ _ (fun z => ?_) n1 n2 p1, p2, p3, p4, p5⟩
    rcases stk _ z with z | z
    · exact p3 z
    · exact p4 z
  · refine (I.hok b u q).stay (fun c v hc r => ?_) (fun _ r => r) fun _ _ r => r
    have hn : H c ≠ none := by
      rcases hc with rfl | hc
      · rw [q]; exact fun z => nomatch z
      · rw [hc]; exact fun z => nomatch z
    exact lk c v (fun z => hn (I.stkFree c z)) (fun z => hn (by rw [z]; exact ap.ha)) (fun z => hn (by rw [z]; exact ap.hT)) r
theorem Inv.left {X : Cx} {pins : List (Addr × Obj)} {σ : L2.St} {H : Hp} {s : Shared} {a T0 T : Addr} {cls : Value} {h2 : Heap} (I : Inv X pins σ H s) (hx : X.ex = []) (ap : ApX X pins H a T0)
    (l : Lft (frs X.stack) a T0 T cls s.heap h2) : Inv X pins σ H { s with heap := h2 } := Inv.leftK I hx ap l.keep l.slot
end L3

namespace L3
open PySem PySem.Spec PyProof.Rows L2
section
variable {X : Cx} {ps pins : List (Addr × Obj)} {E : Value → Shared → Prop} {σ : L2.St} {H : Hp} {s : Shared}
end
end L3

namespace L3
open PySem PySem.Spec PyProof.Rows L2
section
variable {X : Cx} {pins : List (Addr × Obj)} {σ : L2.St} {H : Hp} {s : Shared} {e : Addr}
end
section
variable {X : Cx} {x : Str} {C : Addr} {np hpos pos : Pos} {body suite : List Stmt} {b₀ : Stmt} {tb th : TS} {E : XK}
end
end L3

namespace L3
open PySem PySem.Spec PyProof.Rows L2
open PySem.W in
/-- an exception class as the text's constants show it -/
theorem excC_of {K : PySem.W.Frag} {mg : Str → Option Value} {x : Str} {C : Addr} (b : mg x = some (.ref C)) (q : PySem.W.excIn K C veM "ValueError.__new__" = true) : ExcC K mg x C := by
  intro h X
  refine ⟨b, ?_⟩
  unfold PySem.W.excIn at q
  cases ho : K.lookup C with
  | none => rw [ho] at q; cases q
  | some ob =>
    rw [ho] at q
    obtain ⟨oc, od, oda, osl⟩ := ob
    split at q
    · rename_i dd cd sl e
      obtain ⟨rfl, rfl, rfl, rfl⟩ := Obj.mk.inj (Option.some.inj e)
      split at q
      · rename_i C' bm k0 k1 k2 k3 n k5 hm hs
        simp only [Bool.and_eq_true, beq_iff_eq, Bool.not_eq_true'] at q
        obtain ⟨⟨⟨⟨⟨rfl, rfl⟩, hdel⟩, ht⟩, hok⟩, hni⟩ := q
        obtain ⟨nm, bs, mro, ns, qn, hd, sn, sub, ab, col, del⟩ := cd
        dsimp only at hm hdel hok hni
        subst hm hdel
        obtain ⟨l⟩ := osl
        have hl : l = [k0, k1, k2, k3, some (.builtin "ValueError.__new__"), k5] := hs
        subst hl
        exact ⟨bm, ns, nm, qn, bs, hd, sn, sub, ab, col, od, k0, k1, k2, k3, k5, _, X _ _ ho, .of_isNs (PySem.W.isNs_of_in X hok), PySem.W.nsMap_none_of_in X hok hni, PySem.W.tail_of_in X ht⟩
      · cases q
    · cases q
end L3

namespace L3
open PySem PySem.Spec PyProof.Rows L2
section
variable {P : Program} {w : World} {K : PySem.W.Frag} {mg : Str → Option Value} {base : Heap}
end
def MCalleeX (P : Program) (w : World) (K : PySem.W.Frag) (mg : Str → Option Value) (base : Heap) (C : Addr) (k : Nat) (m : Str) (ps : List Str) (sp : Sp) : Prop :=
  ∃ (f : Addr) (fd : FuncData), FnOk P w K mg base (CX1 P w) k f fd ps sp ∧ Binds K fd ps [] ∧ Meth K C m f
def CalleeX (P : Program) (w : World) (K : PySem.W.Frag) (mg : Str → Option Value) (base : Heap) (k : Nat) (x : Str) (ps : List Str) (sp : Sp) : Prop :=
  ∃ (f : Addr) (fd : FuncData), FnOk P w K mg base (CX1 P w) k f fd ps sp ∧ Binds K fd ps [] ∧ PySem.W.keepIn K (.ref f) = true ∧ mg x = some (.ref f)
section
variable {P : Program} {w : World} {K : PySem.W.Frag} {mg : Str → Option Value} {base : Heap} {C : Addr} {j k : Nat} {m x : Str} {ps : List Str} {sp : Sp}
theorem MCalleeX.mono (c : MCalleeX P w K mg base C j m ps sp) (h : j ≤ k) : MCalleeX P w K mg base C k m ps sp := by
  obtain ⟨f, fd, F, b, mt⟩ := c
  exact ⟨f, fd, F.mono h, b, mt⟩
theorem CalleeX.mono (c : CalleeX P w K mg base j x ps sp) (h : j ≤ k) : CalleeX P w K mg base k x ps sp := by
  obtain ⟨f, fd, F, b, mt⟩ := c
  exact ⟨f, fd, F.mono h, b, mt⟩
end
section
variable {X : Cx} {C : Addr} {k : Nat} {m x : Str} {ps : List Str} {sp : Sp} {o e : Expr} {es : List Expr} {ta : TE} {t : TA} {apos pos p : Pos} {E : XK}
end
end L3

namespace L3
open PySem PySem.Spec PyProof.Rows L2 PySem.W
open PySem.Builtin PySem.Builtin.ObjectAttr PySem.Builtin.Getset_descriptor in
theorem exc_class_get {prog : Program} {w : World} {A : Around} {s : Shared} {K : PySem.W.Frag} {a C : Addr} {o : Obj} {R : Result → Shared → Prop} {tp : Value} (X : K.In s.heap) (hx : s.heap.get? a = some o) (hc : o.cls = .ref C) (hm : PySem.W.mroIn K C (.type "object") = some true)
    (h : R (.ok (.ret (.ref C))) s) : codeAny (model prog w) A (.call (.builtin "getset_descriptor.__get__") ⟨[.builtin "object.__class__", .ref a, tp], []⟩) R s := by
  obtain ⟨hh, g, dr, t, os⟩ := s
  have L0 : Looks (model prog w) hh (typeOf (.ref a)) (.ref C) := hc ▸ (Looks.ld hx).andThen .now
  have L1 := looks_mroIn (M := model prog w) X hm
  refine codeAny_call_builtin KF.slot_gs.plain KF.entry_gs (KF.slot_gs.check _ _ _ _ _ _ _ _ KF.type_class (KF.args_gs _ _ _) ?_)
  unfold Builtin.«getset_descriptor.__get__» descrGet
  rw [dga_obj]
  refine wpAny_bind (wpAny_pure ?_)
  unfold descrGetter descrCheckInstance descrNameAndClass isInstance
  simp only [KF.owner_class]
  repeat lk
  refine ⟨Code.quiet_builtin _ (by decide +kernel), codeAny_builtin KF.entry_class ?_⟩
  unfold Builtin.«object.__class__» shownTypeOf
  repeat lk
  exact h
section
variable {prog : Program} {w : World} {A : Around} {E : Value → Shared → Prop} {K : PySem.W.Frag} {a C : Addr} {o : Obj} {h : Heap} {g : Array GenState} {d : Drawn} {t : Nat} {os : OsState}
theorem exc_class_entry {tk : Tok} {Q : PySem.Fin → Shared → Prop} (X : K.In h) (hx : h.get? a = some o) (hc : o.cls = .ref C) (ha : findIn K (.ref C) "__class__" = some (some (.builtin "object.__class__"))) (hm : PySem.W.mroIn K C (.type "object") = some true)
    (hq : Q (.done (.ret (.ref C))) ⟨h, g, d, t, os⟩) : wpAny (model prog w) A (Builtin.«object.__getattribute__» ⟨[.ref a, .str "__class__" tk], []⟩) Q E ⟨h, g, d, t, os⟩ := by
  have L0 : Looks (model prog w) h (typeOf (.ref a)) (.ref C) := hc ▸ (Looks.ld hx).andThen .now
  have L1 := looks_findIn (M := model prog w) X ha
  have f5 := PySem.F.typeOf_object_class
  have f6 := PySem.F.slot_gs_get.lookup
  have f7 := PySem.F.slot_gs_set.lookup
  repeat (any_goals (first | assumption | with_reducible refine L0.at ?_ | with_reducible refine L1.at ?_ | (with_reducible refine wpAny_loadPart_at hx ?_; rw [hc]) | wp_step))
  refine exc_class_get X hx hc hm ?_
  repeat (any_goals (first | assumption | wp_step))
end
end L3

namespace L3
open PySem PySem.Spec PyProof.Rows L2 PySem.W
structure ExcK (K : PySem.W.Frag) (C : Addr) : Prop where
  ga : findIn K (.ref C) "__getattribute__" = some (some (.builtin "BaseException.__getattribute__"))
  gt : findIn K (.ref C) "__getattr__" = some none
  cl : findIn K (.ref C) "__class__" = some (some (.builtin "object.__class__"))
  ob : mroIn K C (.type "object") = some true
  be : mroIn K C (.type "BaseException") = some true
def ExO (a C : Addr) : HO := .ext fun h => ∃ o, h.get? a = some o ∧ o.cls = .ref C ∧ ∃ vs, o.data = .fields vs ∧ vs[2]? = some .none
theorem ExO.cl {h : Heap} {a C : Addr} (p : ∃ o, h.get? a = some o ∧ o.cls = .ref C ∧ ∃ vs, o.data = .fields vs ∧ vs[2]? = some .none) : ∃ o, h.get? a = some o ∧ o.cls = .ref C := p.imp fun _ z => ⟨z.1, z.2.1⟩
end L3

namespace L3
open PySem PySem.Spec PyProof.Rows L2 PySem.W
section
variable {X : Cx} {pins : List (Addr × Obj)} {σ : L2.St} {H : Hp} {s : Shared}
end

section
variable {X : Cx} {x y : Str} {C : Addr} {np hpos pos : Pos} {body suite : List Stmt} {b₀ : Stmt} {tb : TS} {th : Addr → TS} {E : XK} {i : Nat} {K : PySem.W.Frag}
end

end L3



namespace L2
open PySem PySem.Spec PyProof.Rows

section
variable {X : Cx} {pins : List (Addr × Obj)} {σ : List (Option V)} {H H' : Hp} {s : Shared} {h' : Heap}

end

end L2

namespace L2
open PySem PySem.Spec PyProof.Rows
section
variable {X : Cx}

variable {a b : Expr} {ta tb : TE} {pos : Pos}
variable {tA tB' : TT} {rest : List Expr}
end
end L2



namespace L2
open PySem PySem.Spec PyProof.Rows

section
variable {X : Cx} {a b c : Expr} {ta tb tc : TE} {pos : Pos}

end

end L2

namespace L2
open PySem PySem.Spec PyProof.Rows

section
variable {prog : Program} {w : World} {A : Around} {E : Value → Shared → Prop} {s : Shared} {K : PySem.W.Frag} {x dx C f : Addr} {mA : Str → Option Value} {name : Str} {v : Value}

end


section
variable {X : Cx} {pins : List (Addr × Obj)} {σ : St} {H : Hp} {s : Shared} {a C dx : Addr} {fs : List (Str × V)} {f : Str} {v : V} {A : Around} {E : Value → Shared → Prop}

end


end L2

namespace L2
open PySem PySem.Spec PyProof.Rows



section
variable {X : Cx} {CX : CXT} {k : Nat} {f C : Addr} {fd : FuncData} {ps : List Str} {sp : Sp} {dvs : List V} {ds : List Value} {E : XK} {x m : Str} {p pos apos : Pos} {e o : Expr} {es : List Expr} {ta : TE} {t : TA}

end


end L2

namespace L2
open PySem PySem.Spec PyProof.Rows
section
variable {X : Cx} {x : Str} {p pos : Pos} {e : Expr} {es : List Expr} {t : TA} {id T : String} {r : List V → Hp → VK → Prop}

end
end L2

namespace L2
open PySem PySem.Spec PyProof.Rows

section
variable {κ : Type} [DecidableEq κ]
def valV (kvs : List (κ × V)) (k : κ) : Option V := (kvs.find? fun kv => decide (kv.1 = k)).map (·.2)
def putK (kvs : List (κ × V)) (k : κ) (v : V) : List (κ × V) :=
  if (kvs.any fun kv => decide (kv.1 = k)) = true then kvs.map (fun kv => if kv.1 = k then (kv.1, v) else kv) else kvs ++ [(k, v)]
def dropK (kvs : List (κ × V)) (k : κ) : List (κ × V) := kvs.filter fun kv => decide (kv.1 ≠ k)

theorem valV_pos {p : κ × V} {r : List (κ × V)} {k : κ} (e : p.1 = k) : valV (p :: r) k = some p.2 := by simp [valV, List.find?_cons, e]
theorem valV_neg {p : κ × V} {r : List (κ × V)} {k : κ} (e : ¬ p.1 = k) : valV (p :: r) k = valV r k := by simp [valV, List.find?_cons, e]
theorem valV_any (k : κ) : ∀ kvs : List (κ × V), (kvs.any fun kv => decide (kv.1 = k)) = (valV kvs k).isSome
  | [] => rfl
  | p :: r => by
    rw [List.any_cons]
    by_cases e : p.1 = k
    · simp only [valV_pos e, decide_eq_true e, Bool.true_or, Option.isSome_some]
    · rw [valV_neg e, decide_eq_false e, Bool.false_or]; exact valV_any k r
theorem valV_map (k j : κ) (y : V) : ∀ kvs : List (κ × V), valV (kvs.map fun kv => if kv.1 = k then (kv.1, y) else kv) j = (valV kvs j).map fun x => if j = k then y else x
  | [] => rfl
  | p :: r => by
    have ih := valV_map k j y r
    rw [List.map_cons]
    by_cases h : p.1 = k
    · rw [if_pos h]
      by_cases e : p.1 = j
      · rw [valV_pos (p := (p.1, y)) e, valV_pos e, Option.map_some, if_pos (e.symm.trans h)]
      · rw [valV_neg (p := (p.1, y)) e, valV_neg e, ih]
    · rw [if_neg h]
      by_cases e : p.1 = j
      · rw [valV_pos (p := p) e, valV_pos e, Option.map_some, if_neg (fun z => h (e.trans z))]
      · rw [valV_neg (p := p) e, valV_neg e, ih]
theorem valV_snoc (k j : κ) (y : V) : ∀ kvs : List (κ × V), valV kvs k = none → valV (kvs ++ [(k, y)]) j = if j = k then some y else valV kvs j
  | [], _ => by
    by_cases e : k = j
    · rw [if_pos e.symm]; exact valV_pos (p := (k, y)) e
    · rw [if_neg (fun z => e z.symm)]; exact valV_neg (p := (k, y)) e
  | p :: r, hn => by
    rw [List.cons_append]
    have hk : ¬ p.1 = k := fun z => by rw [valV_pos z] at hn; cases hn
    rw [valV_neg hk] at hn
    have ih := valV_snoc k j y r hn
    by_cases e : p.1 = j
    · rw [valV_pos e, valV_pos e, if_neg (fun z => hk (e.trans z))]
    · rw [valV_neg e, valV_neg e, ih]
theorem valV_put (kvs : List (κ × V)) (k j : κ) (y : V) : valV (putK kvs k y) j = if j = k then some y else valV kvs j := by
  unfold putK
  by_cases a : (kvs.any fun kv => decide (kv.1 = k)) = true
  · rw [if_pos a, valV_map]
    rw [valV_any] at a
    by_cases e : j = k
    · obtain ⟨x, hx⟩ := Option.isSome_iff_exists.mp a
      rw [if_pos e, e, hx, Option.map_some, if_pos rfl]
    · rw [if_neg e]
      cases valV kvs j with
      | none => rfl
      | some x => rw [Option.map_some, if_neg e]
  · rw [if_neg a]
    refine valV_snoc k j y kvs ?_
    rw [valV_any] at a
    cases q : valV kvs k with
    | none => rfl
    | some x => rw [q] at a; exact (a rfl).elim
theorem length_putK (kvs : List (κ × V)) (k : κ) (v : V) : (putK kvs k v).length ≤ kvs.length + 1 := by
  unfold putK
  split
  · rw [List.length_map]; omega
  · rw [List.length_append, List.length_cons, List.length_nil]; omega
theorem putK_new {kvs : List (κ × V)} {k : κ} (v : V) (h : valV kvs k = none) : putK kvs k v = kvs ++ [(k, v)] := by
  unfold putK
  rw [valV_any, h]
  exact if_neg (by decide)

theorem RelO.isSome_eq {o : Option V} {u : Option Value} (r : RelO o u) : o.isSome = u.isSome := by
  cases o with
  | none => cases u with
    | none => rfl
    | some _ => exact (show False from r).elim
  | some _ => cases u with
    | none => exact (show False from r).elim
    | some _ => rfl
theorem RelO.getD {o : Option V} {u : Option Value} {d : V} {d' : Value} (r : RelO o u) (rd : RelV d d') : RelV (o.getD d) (u.getD d') := by
  cases o with
  | none => cases u with
    | none => exact rd
    | some _ => exact (show False from r).elim
  | some _ => cases u with
    | none => exact (show False from r).elim
    | some _ => exact r

theorem KV.val {kvs : List (κ × V)} {vs : List (κ × Value)} (r : KV kvs vs) (k : κ) : RelO (valV kvs k) (valueAt vs k) := by
  unfold KV at r
  induction r with
  | nil => exact True.intro
  | @cons p q ps qs h t ih =>
    obtain ⟨h1, h2⟩ := h
    by_cases e : p.1 = k
    · have e' : q.1 = k := h1.symm.trans e
      have b : valueAt (q :: qs) k = some q.2 := by simp [valueAt, List.find?_cons, e']
      rw [valV_pos e, b]; exact h2
    · have e' : ¬ q.1 = k := fun z => e (h1.trans z)
      have b : valueAt (q :: qs) k = valueAt qs k := by simp [valueAt, List.find?_cons, e']
      rw [valV_neg e, b]; exact ih
theorem KV.any {kvs : List (κ × V)} {vs : List (κ × Value)} (r : KV kvs vs) (k : κ) : (kvs.any fun kv => decide (kv.1 = k)) = vs.any fun kv => decide (kv.1 = k) := by
  unfold KV at r
  induction r with
  | nil => rfl
  | cons h t ih => rw [List.any_cons, List.any_cons, ih, h.1]
theorem KV.repl {kvs : List (κ × V)} {vs : List (κ × Value)} (r : KV kvs vs) (k : κ) {y : V} {u : Value} (ry : RelV y u) :
    KV (kvs.map fun kv => if kv.1 = k then (kv.1, y) else kv) (vs.map fun kv => if kv.1 = k then (kv.1, u) else kv) := by
  unfold KV at r ⊢
  induction r with
  | nil => exact .nil
  | @cons p q ps qs h t ih =>
    rw [List.map_cons, List.map_cons]
    refine .cons ?_ ih
    obtain ⟨h1, h2⟩ := h
    by_cases e : p.1 = k
    · rw [if_pos e, if_pos (h1.symm.trans e)]; exact ⟨h1, ry⟩
    · rw [if_neg e, if_neg (fun z => e (h1.trans z))]; exact ⟨h1, h2⟩
theorem KV.put {kvs : List (κ × V)} {vs : List (κ × Value)} (r : KV kvs vs) (k : κ) {y : V} {u : Value} (ry : RelV y u) : KV (putK kvs k y) (stored vs k u) := by
  unfold putK stored
  rw [r.any k]
  by_cases e : (vs.any fun kv => decide (kv.1 = k)) = true
  · rw [if_pos e, if_pos e]; exact r.repl k ry
  · rw [if_neg e, if_neg e]; exact Paired.snoc r ⟨rfl, ry⟩
theorem KV.drop {kvs : List (κ × V)} {vs : List (κ × Value)} (r : KV kvs vs) (k : κ) : KV (dropK kvs k) (without vs k) := by
  unfold KV at r ⊢
  unfold dropK without
  induction r with
  | nil => exact .nil
  | @cons p q ps qs h t ih =>
    obtain ⟨h1, h2⟩ := h
    rw [List.filter_cons, List.filter_cons]
    by_cases e : p.1 = k
    · have a : ¬ decide (p.1 ≠ k) = true := by simp [e]
      have b : ¬ decide (q.1 ≠ k) = true := by simp [h1.symm.trans e]
      rw [if_neg a, if_neg b]; exact ih
    · have e' : ¬ q.1 = k := fun z => e (h1.trans z)
      have a : decide (p.1 ≠ k) = true := by simp [e]
      have b : decide (q.1 ≠ k) = true := by simp [e']
      rw [if_pos a, if_pos b]; exact .cons ⟨h1, h2⟩ ih
theorem KV.keys {kvs : List (κ × V)} {vs : List (κ × Value)} (r : KV kvs vs) : kvs.map (·.1) = vs.map (·.1) := by
  unfold KV at r
  induction r with
  | nil => rfl
  | cons h t ih => rw [List.map_cons, List.map_cons, ih, h.1]
theorem KV.length {kvs : List (κ × V)} {vs : List (κ × Value)} (r : KV kvs vs) : kvs.length = vs.length := Paired.length r
end


theorem kV_is {P : Program} {w : World} {k : Key} {u : Value} (r : RelV (kV k) u) : (mixKind P w).is k u = true := by
  cases k with
  | inl i => obtain ⟨t, e⟩ := (show ∃ t, u = Value.int i t from r); subst e; exact mixKind_int P w i t
  | inr x => obtain ⟨t, e⟩ := (show ∃ t, u = Value.str x t from r); subst e; exact mixKind_str P w x t
theorem items_are {P : Program} {w : World} : ∀ {ks : List Key} {us : List Value}, Vals (ks.map kV) us → ItemsAre (mixKind P w) ks us
  | [], _, r => by rw [List.map_nil] at r; cases r; exact .nil
  | k :: ks, _, r => by
    rw [List.map_cons] at r
    cases r with
    | cons h t => exact .cons (kV_is h) (items_are t)

abbrev KT (H : Hp) : List (List Key × V) → List (List Key × Addr × Value) → Prop := Paired fun p q => p.1 = q.1 ∧ H q.2.1 = some (.tup (p.1.map kV)) ∧ RelV p.2 q.2.2
theorem KT.val {H : Hp} {kvs : List (List Key × V)} {xs : List (List Key × Addr × Value)} (r : KT H kvs xs) (k : List Key) : RelO (valV kvs k) ((atKey xs k).map (·.2)) := by
  induction r with
  | nil => exact True.intro
  | @cons p q ps qs h t ih =>
    obtain ⟨h1, _, h2⟩ := h
    by_cases e : p.1 = k
    · have e' : q.1 = k := h1.symm.trans e
      have b : atKey (q :: qs) k = some q.2 := by simp [atKey, List.find?_cons, e']
      rw [valV_pos e, b]; exact h2
    · have e' : ¬ q.1 = k := fun z => e (h1.trans z)
      have b : atKey (q :: qs) k = atKey qs k := by simp [atKey, List.find?_cons, e']
      rw [valV_neg e, b]; exact ih
theorem KT.repl {H : Hp} {kvs : List (List Key × V)} {xs : List (List Key × Addr × Value)} (r : KT H kvs xs) (k : List Key) {y : V} {u : Value} (ry : RelV y u) :
    KT H (kvs.map fun kv => if kv.1 = k then (kv.1, y) else kv) (xs.map (putAt k u)) := by
  induction r with
  | nil => exact .nil
  | @cons p q ps qs h t ih =>
    rw [List.map_cons, List.map_cons]
    refine .cons ?_ ih
    obtain ⟨h1, h2, h3⟩ := h
    unfold putAt
    by_cases e : p.1 = k
    · rw [if_pos e, if_pos (h1.symm.trans e)]; exact ⟨h1, h2, ry⟩
    · rw [if_neg e, if_neg (fun z => e (h1.trans z))]; exact ⟨h1, h2, h3⟩
theorem KT.put {H : Hp} {kvs : List (List Key × V)} {xs : List (List Key × Addr × Value)} (r : KT H kvs xs) (k : List Key) {b : Addr} {y : V} {u : Value} (hb : H b = some (.tup (k.map kV))) (ry : RelV y u) :
    KT H (putK kvs k y) (storedH xs k b u) := by
  have e : (kvs.any fun kv => decide (kv.1 = k)) = (atKey xs k).isSome := by
    rw [valV_any, (r.val k).isSome_eq, Option.isSome_map]
  unfold putK storedH
  rw [e]
  by_cases q : (atKey xs k).isSome = true
  · rw [if_pos q, if_pos q]; exact r.repl k ry
  · rw [if_neg q, if_neg q]; exact Paired.snoc r ⟨rfl, hb, ry⟩
theorem KT.keeps {H H' : Hp} {kvs : List (List Key × V)} {xs : List (List Key × Addr × Value)} (r : KT H kvs xs) (ht : ∀ b ys, H b = some (.tup ys) → H' b = some (.tup ys)) : KT H' kvs xs :=
  Paired.mapP r fun _ _ z => ⟨z.1, ht _ _ z.2.1, z.2.2⟩

section
variable {P : Program} {w : World} {H : Hp} {h : Heap} {a : Addr}
theorem rd_of {u : HO} (ok : HOk P w H h) (e : Rd H a u) : ObjOk P w H h a u := e.ok ok
theorem dk_rd {kvs : List (Key × V)} (ok : HOk P w H h) (e : Rd H a (.dK kvs)) : kvs.length ≤ sizeLine ∧ (a == sysModules) = false ∧ ∃ vs, KV kvs vs ∧ h.DictOf (mixKind P w) a vs :=
  show ObjOk P w H h a (.dK kvs) from rd_of ok e
theorem dk_of {kvs : List (Key × V)} (ok : HOk P w H h) (e : H a = some (.dK kvs)) : kvs.length ≤ sizeLine ∧ (a == sysModules) = false ∧ ∃ vs, KV kvs vs ∧ h.DictOf (mixKind P w) a vs := dk_rd ok (.inl e)
theorem key_of {ks : List Key} (ok : HOk P w H h) (e : H a = some (.tup (ks.map kV))) : (tupleKind (mixKind P w)).is h ks a := by
  obtain ⟨_, its, r, o, h1, h2, n, h3⟩ := (show ObjOk P w H h a (.tup (ks.map kV)) from ok a _ e)
  exact ⟨o, its.toArray, n, h1, h2, h3, by simpa using items_are r⟩
theorem dt_rd {kvs : List (List Key × V)} (ok : HOk P w H h) (e : Rd H a (.dT kvs)) : kvs.length ≤ sizeLine ∧ (a == sysModules) = false ∧
    ∃ xs, KT H kvs xs ∧ h.DictOfH (tupleKind (mixKind P w)) a xs := by
  obtain ⟨z, y, xs, r, o, es, ep, h1, h2, h3, h4, h5⟩ := (show ObjOk P w H h a (.dT kvs) from rd_of ok e)
  refine ⟨z, y, xs, r, o, es, ep, h1, h2, h3, h4, fun x hx => ?_, h5⟩
  have all : ∀ {l : List (List Key × V)} {m : List (List Key × Addr × Value)}, KT H l m → ∀ x ∈ m, (tupleKind (mixKind P w)).is h x.1 x.2.1 := by
    intro l m q
    induction q with
    | nil => intro x hx; exact nomatch hx
    | @cons p q ps qs hq t ih =>
      intro x hx
      rcases List.mem_cons.mp hx with e | hx
      · subst e
        exact key_of ok (by rw [← hq.1]; exact hq.2.1)
      · exact ih x hx
  exact all r x hx
theorem dt_of {kvs : List (List Key × V)} (ok : HOk P w H h) (e : H a = some (.dT kvs)) : kvs.length ≤ sizeLine ∧ (a == sysModules) = false ∧
    ∃ xs, KT H kvs xs ∧ h.DictOfH (tupleKind (mixKind P w)) a xs := dt_rd ok (.inl e)
end

def DGet (H : Hp) (a : Addr) (y : V) (r : Option V) : Prop :=
  (∃ kvs k, Rd H a (.dK kvs) ∧ y = kV k ∧ r = valV kvs k) ∨ ∃ kvs k b, Rd H a (.dT kvs) ∧ y = .ref b ∧ H b = some (.tup (k.map kV)) ∧ r = valV kvs k
def DPut (H : Hp) (a : Addr) (y v : V) (H' : Hp) : Prop :=
  (∃ kvs k, H a = some (.dK kvs) ∧ y = kV k ∧ kvs.length < sizeLine ∧ H' = upd H a (.dK (putK kvs k v))) ∨
  ∃ kvs k b, H a = some (.dT kvs) ∧ y = .ref b ∧ H b = some (.tup (k.map kV)) ∧ kvs.length < sizeLine ∧ H' = upd H a (.dT (putK kvs k v))
theorem DGet.k {H : Hp} {a : Addr} {kvs : List (Key × V)} {k : Key} (e : H a = some (.dK kvs)) : DGet H a (kV k) (valV kvs k) := .inl ⟨kvs, k, .inl e, rfl, rfl⟩
theorem DGet.t {H : Hp} {a b : Addr} {kvs : List (List Key × V)} {k : List Key} (e : H a = some (.dT kvs)) (eb : H b = some (.tup (k.map kV))) : DGet H a (.ref b) (valV kvs k) := .inr ⟨kvs, k, b, .inl e, rfl, eb, rfl⟩
theorem DPut.k {H : Hp} {a : Addr} {kvs : List (Key × V)} {k : Key} {v : V} (e : H a = some (.dK kvs)) (hl : kvs.length < sizeLine) : DPut H a (kV k) v (upd H a (.dK (putK kvs k v))) := .inl ⟨kvs, k, e, rfl, hl, rfl⟩
theorem DPut.t {H : Hp} {a b : Addr} {kvs : List (List Key × V)} {k : List Key} {v : V} (e : H a = some (.dT kvs)) (eb : H b = some (.tup (k.map kV))) (hl : kvs.length < sizeLine) :
    DPut H a (.ref b) v (upd H a (.dT (putK kvs k v))) := .inr ⟨kvs, k, b, e, rfl, eb, hl, rfl⟩


section
variable {X : Cx} {pins : List (Addr × Obj)} {σ : St} {H : Hp} {s : Shared} {a : Addr} {y v : V} {u r : Value} {o : Option V} {A : Around} {E : Value → Shared → Prop}

theorem Inv.big (I : Inv X pins σ H s) : sysModules < s.heap.objs.size := by
  have h : mainGlobals < s.heap.objs.size := (I.mod.glob.keeps I.bk).lt
  exact Nat.lt_trans (by decide) h

theorem d_getItem {Q : Value → Shared → Prop} (hu : A.units + 1 < cLine) (I : Inv X pins σ H s) (g : DGet H a y (some v)) (ry : RelV y u) (h : ∀ w' s', Inv X pins σ H s' → RelV v w' → Q w' s') :
    wpAny (model X.prog X.w) A (getItem (.ref a) u) Q E s := by
  rcases g with ⟨kvs, k, e, ey, l⟩ | ⟨kvs, k, b, e, ey, eb, l⟩
  · subst ey
    obtain ⟨z, hd, vs, rel, dd⟩ := dk_rd I.hok e
    obtain ⟨w', hw, rw'⟩ := RelO.some_of (v := v) (o := valueAt vs k) (by rw [l]; exact rel.val k)
    exact wpAny_getItem_of (kV_is ry) dd.mapOf hw (h w' _ (I.tok _) rw')
  · subst ey
    cases (show u = Value.ref b from ry)
    obtain ⟨z, hd, xs, rel, dd⟩ := dt_rd I.hok e
    obtain ⟨w', hw, rw'⟩ := RelO.some_of (v := v) (o := (atKey xs k).map (·.2)) (by rw [l]; exact rel.val k)
    obtain ⟨p, hp, hp2⟩ := Option.map_eq_some_iff.mp hw
    refine wpAny_getItem_heap (tupleKind_room_in1 hu) (key_of I.hok eb) dd hp ?_
    rw [hp2]
    exact h w' _ (I.tok _) rw'
theorem d_in {Q : Value → Shared → Prop} (hu : A.units + 1 < cLine) (I : Inv X pins σ H s) (g : DGet H a y o) (ry : RelV y u) (h : ∀ s', Inv X pins σ H s' → Q (.bool o.isSome) s') :
    wpAny (model X.prog X.w) A (compareOp .In u (.ref a)) Q E s := by
  rcases g with ⟨kvs, k, e, ey, l⟩ | ⟨kvs, k, b, e, ey, eb, l⟩
  · subst ey
    obtain ⟨z, hd, vs, rel, dd⟩ := dk_rd I.hok e
    refine wpAny_in_of (kV_is ry) hd dd.mapOf ?_
    rw [← (rel.val k).isSome_eq, ← l]
    exact h _ (I.tok _)
  · subst ey
    cases (show u = Value.ref b from ry)
    obtain ⟨z, hd, xs, rel, dd⟩ := dt_rd I.hok e
    refine wpAny_in_heap (tupleKind_room_in1 hu) (key_of I.hok eb) hd dd ?_
    have q := (rel.val k).isSome_eq
    rw [Option.isSome_map] at q
    rw [← q, ← l]
    exact h _ (I.tok _)
theorem d_write {h' : Heap} {t' : Nat} {ob : HO} (I : Inv X pins σ H s) (mu : Mut (H a)) (hs : Heap.SameBut a s.heap h') (he : ∃ q, h'.get? a = some q) (new : ObjOk X.prog X.w (upd H a ob) h' a ob) :
    Inv X pins σ (upd H a ob) { s with heap := h', toks := t' } :=
  I.write (x := a) (e := a) mu (.inl rfl) (fun b q hb z => (hs.2 b hb).trans z) he new
theorem dk_new {P : Program} {w : World} {H' : Hp} {h' : Heap} {kvs : List (Key × V)} {vs : List (Key × Value)} (z : kvs.length ≤ sizeLine) (hd : (a == sysModules) = false) (rel : KV kvs vs) (dd : h'.DictOf (mixKind P w) a vs) :
    ObjOk P w H' h' a (.dK kvs) := ⟨z, hd, vs, rel, dd⟩
theorem d_setItem {H' : Hp} {Q : Unit → Shared → Prop} (hu : A.units + 1 < cLine) (I : Inv X pins σ H s) (g : DPut H a y v H') (ry : RelV y u) (rv : RelV v r) (h : ∀ s', Inv X pins σ H' s' → Q () s') :
    wpAny (model X.prog X.w) A (setItem (.ref a) u r) Q E s := by
  rcases g with ⟨kvs, k, e, ey, l, eH⟩ | ⟨kvs, k, b, e, ey, eb, l, eH⟩
  · subst ey eH
    obtain ⟨z, hd, vs, rel, dd⟩ := dk_of I.hok e
    have hz : vs.length ≤ sizeLine := by rw [← rel.length]; exact z
    have hl : (putK kvs k v).length ≤ sizeLine := by have := length_putK kvs k v; omega
    refine wpAny_setItem_pairs (hsz := hz) (kV_is ry) dd fun h' dd' hs => h _ ?_
    have he : ∃ q, h'.get? a = some q := let ⟨q, _, _, hq, _⟩ := dd'; ⟨q, hq⟩
    exact d_write I (by rw [e]; exact True.intro) hs he (dk_new hl hd (rel.put k rv) dd')
  · subst ey eH
    cases (show u = Value.ref b from ry)
    obtain ⟨z, hd, xs, rel, dd⟩ := dt_of I.hok e
    have hz : xs.length ≤ sizeLine := by rw [← Paired.length rel]; exact z
    have hl : (putK kvs k v).length ≤ sizeLine := by have := length_putK kvs k v; omega
    refine wpAny_setItem_heap (hsz := hz) (tupleKind_room_in1 hu) (key_of I.hok eb) dd fun h' dd' hs => h _ ?_
    obtain ⟨q, es, ep, hq, h2, h3, h4, _, h5⟩ := dd'
    refine d_write I (by rw [e]; exact True.intro) hs ⟨q, hq⟩ ⟨hl, hd, _, (rel.put k eb rv).keeps fun c ys ec => ?_, q, es, ep, hq, h2, h3, h4, h5⟩
    rw [upd_ne (ne_of ec e (fun z => nomatch z))]
    exact ec
end

section
variable {X : Cx} {pins : List (Addr × Obj)} {σ : St} {H : Hp} {s : Shared} {a : Addr} {kvs : List (Key × V)} {k : Key} {u : Value} {A : Around} {E : Value → Shared → Prop}
end


def NoSl (i : Expr) : Prop := ∀ ov iv, subscripted i false ov iv = operate [ov, iv] (getItem ov iv)
theorem subD_of {prog : Program} {w : World} {A : Around} {E : Value → Shared → Prop} {s : Shared} {env : Env} {value slice : Expr} {pos : Pos} {T id : String} {Q : Value → Shared → Prop}
    (hl : typeLookup (.type T) "__getitem__" = pure (some (.builtin id))) (hs : NoSl slice)
    (h : wpAny (model prog w) A (eval value env) (fun o s₁ => wpAny (model prog w) A (eval slice env) (fun i s₂ => s₂.TypeIs o T ∧ wpAny (model prog w) A (getItem o i) Q E s₂) E s₁) E s) :
    wpAny (model prog w) A (eval (.Subscript value slice pos) env) Q E s := by
  refine Subscript_ (wpAny_mono h (fun o s₁ h₁ => wpAny_mono h₁ (fun i s₂ h₂ => ?_) fun _ _ x => x) fun _ _ x => x)
  obtain ⟨hT, h₂⟩ := h₂
  unfold subscriptTail
  refine wpAny_bind ?_
  rw [getitemInPython_of_ne hT.not_modules]
  refine wpAny_bind (wpAny_specialOf hT hl ?_)
  have fin : wpAny (model prog w) A (subscripted slice false o i) (fun r s₃ => wpAny (model prog w) A (letTemporaryGo value o r >>= fun _ => pure r) Q E s₃) E s₂ := by
    rw [hs o i]
    exact wpAny_operating (wpAny_mono h₂ (fun r s₃ h₃ => wpAny_bind (wpAny_letTemporaryGo (wpAny_pure h₃))) fun _ _ x => x)
  first
    | exact wpAny_pure (wpAny_bind fin)
    | exact wpAny_bind (wpAny_pure (wpAny_bind fin))
    | exact wpAny_bind fin

theorem dict_typeIs {X : Cx} {pins : List (Addr × Obj)} {σ : St} {H : Hp} {s : Shared} {a : Addr} {y : V} {o : Option V} (I : Inv X pins σ H s) (g : DGet H a y o) : s.TypeIs (.ref a) "dict" := by
  rcases g with ⟨kvs, k, e, _, _⟩ | ⟨kvs, k, b, e, _, _, _⟩
  · obtain ⟨_, _, vs, _, dd⟩ := dk_rd I.hok e
    exact dd.typeIs
  · obtain ⟨_, _, xs, _, dd⟩ := dt_rd I.hok e
    exact dd.typeIs

def tDGet (td ty : TE) : TE := fun σ H Q => td σ H fun x H1 => ty σ H1 fun y H2 => ∃ a v, x = .ref a ∧ DGet H2 a y (some v) ∧ Q v H2
def tDIn (ty td : TE) : TE := fun σ H Q => ty σ H fun y H1 => td σ H1 fun x H2 => ∃ a o, x = .ref a ∧ DGet H2 a y o ∧ Q (.bl o.isSome) H2
def sDPut (td ty tv : TE) : TS := fun D σ H => tv σ H fun v H1 => td σ H1 fun x H2 => ty σ H2 fun y H3 => ∃ a H4, x = .ref a ∧ DPut H3 a y v H4 ∧ D.nx σ H4

section
variable {X : Cx} {o i e value : Expr} {pos pos' tpos : Pos} {td ty tv : TE}
theorem pe_dget (hu : X.A.units + 1 < cLine) (ho : PE X o td) (hi : PE X i ty) (hs : NoSl i) : PE X (.Subscript o i pos) (tDGet td ty) := by
  intro pins s σ H Q I h
  refine subD_of PySem.F.slot_dict_getitem.lookup hs (thn (ho pins s σ H _ I h) fun u s1 ⟨x, H1, I1, rx, q1⟩ => thn (hi pins s1 σ H1 _ I1 q1) fun iv s2 ⟨y, H2, I2, ry, a, v, ex, g, q2⟩ => ?_)
  subst ex
  obtain rfl : u = Value.ref a := rx
  exact ⟨dict_typeIs I2 g, d_getItem hu I2 g ry fun w' s3 I3 rw' => ⟨v, H2, I3, rw', q2⟩⟩
theorem pc_din (hu : X.A.units + 1 < cLine) (hi : PE X i ty) (ho : PE X o td) : PC X .In i o (tDIn ty td) := by
  intro pins s σ H Q I h
  refine thn (hi pins s σ H _ I h) fun iv s1 ⟨y, H1, I1, ry, q1⟩ => thn (ho pins s1 σ H1 _ I1 q1) fun u s2 ⟨x, H2, I2, rx, a, ov, ex, g, q2⟩ => ?_
  subst ex
  obtain rfl : u = Value.ref a := rx
  exact d_in hu I2 g ry fun s3 I3 => ⟨.bl ov.isSome, H2, I3, rfl, q2⟩
theorem ps_dput (hu : X.A.units + 1 < cLine) (ho : PE X o td) (hi : PE X i ty) (hv : PE X value tv) (hs : swapsWith value (some (.Subscript o i pos')) pos.line X.env = pure false) :
    PS X (.Assign [.Subscript o i pos'] value pos) (sDPut td ty tv) := by
  intro pins s σ H D I h
  refine wpAny_Assign_Subscript (thn (hv pins s σ H _ I h) fun r s1 ⟨v, H1, I1, rv, q1⟩ => thn (ho pins s1 σ H1 _ I1 q1) fun u s2 ⟨x, H2, I2, rx, q2⟩ => thn (hi pins s2 σ H2 _ I2 q2) fun iv s3 ⟨y, H3, I3, ry, a, H4, ex, g, q3⟩ => ?_) hs
  subst ex
  obtain rfl : u = Value.ref a := rx
  exact d_setItem hu I3 g ry rv fun s4 I4 => ⟨σ, H4, I4, q3⟩
end


theorem dt_empty {P : Program} {w : World} {H : Hp} (h : Heap) (hb : sysModules < h.objs.size) : ObjOk P w H (h.push { cls := .type "dict", data := .dict #[] }) h.objs.size (.dT []) :=
  ⟨Nat.zero_le _, beq_eq_false_iff_ne.mpr (Ne.symm (Nat.ne_of_lt hb)), [], .nil, _, #[], 0, Heap.get?_push_size _ rfl, ⟨rfl, rfl, rfl⟩, rfl, rfl, List.nodup_nil⟩
def tDNewT : TE := fun _ H Q => ∀ p, H p = none → Q (.ref p) (upd H p (.dT []))
section
variable {X : Cx} {pos : Pos}
theorem pe_dnewT : PE X (.Dict [] [] pos) tDNewT := fun pins s σ H Q I h =>
  wpAny_Dict_empty ⟨.ref s.heap.objs.size, _, I.laid (a := s.heap.objs.size) (o := .dT []) (t' := s.toks) (fun _ _ q => Heap.get?_push_of_some _ q) (Nat.le_refl _) (dt_empty s.heap I.big), rfl, h _ (I.hok.fresh (Nat.le_refl _))⟩
end




structure M1 (X : Cx) (o : Expr) (m : Str) (apos : Pos) (e : Expr) (cpos : Pos) : Prop where
  base : attributeBase o m X.env (eval o X.env) = eval o X.env
  few : ((backTo cpos (starEach [e] X.env)).all (fun x => !x.1) && (backToKw cpos (keywordEach [] X.env)).all (fun x => x.1.isSome)
    && decide (([e] : List Expr).length + ([] : List Keyword).length + (if ([] : List Keyword).isEmpty then 0 else 1) < 30)) = true
  line : (apos.endLine == cpos.line) = true
  trees : backTo cpos (starEach [e] X.env) = [(false, eval e X.env)]
structure M2 (X : Cx) (o : Expr) (m : Str) (apos : Pos) (e f : Expr) (cpos : Pos) : Prop where
  base : attributeBase o m X.env (eval o X.env) = eval o X.env
  few : ((backTo cpos (starEach [e, f] X.env)).all (fun x => !x.1) && (backToKw cpos (keywordEach [] X.env)).all (fun x => x.1.isSome)
    && decide (([e, f] : List Expr).length + ([] : List Keyword).length + (if ([] : List Keyword).isEmpty then 0 else 1) < 30)) = true
  line : (apos.endLine == cpos.line) = true
  trees : backTo cpos (starEach [e, f] X.env) = [(false, eval e X.env), (false, eval f X.env)]


section
variable {X : Cx} {pins : List (Addr × Obj)} {σ : St} {H : Hp} {s : Shared} {a : Addr} {y d : V} {u r : Value} {o : Option V} {A : Around} {E : Value → Shared → Prop}
end

section
variable {X : Cx} {o e f : Expr} {apos cpos : Pos} {td ty tx : TE}
end

section
variable {X : Cx} {pins : List (Addr × Obj)} {σ : St} {H : Hp} {s : Shared} {a : Addr} {kvs : List (Key × V)} {A : Around} {E : Value → Shared → Prop}
end


section
variable {X : Cx} {pins : List (Addr × Obj)} {σ : St} {H : Hp} {s : Shared} {a : Addr} {y : V} {u : Value} {A : Around} {E : Value → Shared → Prop}
end
end L2

namespace Att
open PySem PySem.W PySem.Calls PyProof.Rows

section
variable {prog : Program} {w : World} {A : Around} {E : Value → Shared → Prop} {s : Shared} {K : Frag}

end
end Att



namespace L2
open PySem PySem.Spec PyProof.Rows

section
variable {X : Cx}
end

section
variable {κ : Type} [DecidableEq κ]
theorem valV_not {kvs : List (κ × V)} {k : κ} (h : valV kvs k = none) : ¬ k ∈ kvs.map (·.1) := by
  intro m
  obtain ⟨p, hp, e⟩ := List.mem_map.mp m
  have q : (kvs.any fun kv => decide (kv.1 = k)) = true := List.any_eq_true.mpr ⟨p, hp, decide_eq_true e⟩
  rw [valV_any, h] at q
  exact absurd q (by simp)
theorem nd_snoc : ∀ {l : List κ} {k : κ}, l.Nodup → ¬ k ∈ l → (l ++ [k]).Nodup
  | [], k, _, _ => by simp
  | a :: r, k, h, hk => by
    obtain ⟨h1, h2⟩ := List.nodup_cons.mp h
    show (a :: (r ++ [k])).Nodup
    refine List.nodup_cons.mpr ⟨fun m => ?_, nd_snoc h2 fun m => hk (List.mem_cons.mpr (Or.inr m))⟩
    rcases List.mem_append.mp m with q | q
    · exact h1 q
    · exact hk (List.mem_cons.mpr (Or.inl (List.mem_singleton.mp q).symm))
theorem nd_putK {kvs : List (κ × V)} {k : κ} (v : V) (hn : (kvs.map (·.1)).Nodup) (h : valV kvs k = none) : ((putK kvs k v).map (·.1)).Nodup := by
  rw [putK_new v h, List.map_append]
  exact nd_snoc hn (valV_not h)
end
end L2

namespace L3
open PySem PySem.Spec PyProof.Rows L2
section
variable {prog : Program} {w : World} {κ : Type} [DecidableEq κ] {knd : HeapKind prog w κ} {A : Around} {E : Value → Shared → Prop} {s : Shared}
end
section
variable {X : Cx}
end
section
variable {X : Cx} {pos : Pos} {k v : Expr} {tk tv : TE}
end
end L3

namespace L3
open PySem PySem.Spec PyProof.Rows L2 PySem.W
def EntAt (es : Array DictEntry) (d : Addr) (ep : Nat) (h : Heap) : Prop := ∃ o, h.get? d = some o ∧ o.ExactDict ∧ o.data = .dict es ep
section
variable {prog : Program} {w : World} {A : Around} {E : Value → Shared → Prop} {s : Shared} {es : Array DictEntry} {d it : Addr} {ep i : Nat}
theorem EntAt.typeIs (h : EntAt es d ep s.heap) : s.TypeIs (.ref d) "dict" := let ⟨o, ho, hc, _⟩ := h; ⟨o, ho, hc.1⟩
theorem EntAt.keep {h h' : Heap} (x : EntAt es d ep h) (e : ∀ o, h.get? d = some o → h'.get? d = some o) : EntAt es d ep h' := let ⟨o, ho, r⟩ := x; ⟨o, e o ho, r⟩
theorem ent_iter {Q : Value → Shared → Prop} (hd : (d == sysModules) = false) (hm : EntAt es d ep s.heap)
    (hQ : Q (.ref s.heap.objs.size) { s with heap := s.heap.push { cls := .type "dict_keyiterator", data := .fields #[.ref d, .int 0 0, .int es.size 0, .int ep 0] } }) :
    wpAny (model prog w) A (pyIter (.ref d)) Q E s := by
  obtain ⟨o, ho, hc, hdat⟩ := id hm
  have hT : s.TypeIs (.ref d) "dict" := hm.typeIs
  refine wpAny_pyIter_slot hT PySem.F.slot_dict_iter (wpAny_call_entry PySem.F.slot_dict_iter hT PySem.F.entry_dict_iter ?_ (PySem.F.args_dict_iter_1 _))
  unfold Builtin.«dict.__iter__»
  refine wpAny_bind ?_
  unfold Builtin.Dict.dictSlotNone
  refine wpAny_bind (wpAny_notOrdered_dict hT ?_)
  show wpAny _ _ (pure (Value.ref d)) _ _ s
  refine wpAny_pure ?_
  show wpAny _ _ (Builtin.Dict.showsAll d >>= _) _ _ s
  unfold Builtin.Dict.showsAll
  rw [if_neg (by rw [hd]; exact Bool.false_ne_true)]
  refine wpAny_bind (wpAny_pure ?_)
  refine wpAny_bind (wpAny_dictEntries ho hdat ?_)
  refine wpAny_bind (wpAny_dictEpoch ho hdat ?_)
  refine wpAny_bind (wpAny_newObj_type (wpAny_pure ⟨_, rfl, "dict_keyiterator", _, ⟨_, Heap.get?_push_size _ rfl, rfl⟩, PySem.F.slot_dict_keyiterator_next.lookup, ?_⟩))
  simpa [rawInt] using hQ
theorem ent_next {Q : Option Value → Shared → Prop} (hit : s.heap.IsKeyIter it d i es.size ep) (hm : EntAt es d ep s.heap) (hlt : i < es.size)
    (hQ : ∀ h', h'.IsKeyIter it d (i + 1) es.size ep → Heap.SameBut it s.heap h' → Q (some es[i].key) { s with heap := h' }) :
    wpAny (model prog w) A (pyNext (.ref it)) Q E s := by
  obtain ⟨o, ho, hc, hd⟩ := id hit
  obtain ⟨od, hod, hcd, hdd⟩ := id hm
  unfold pyNext
  refine wpAny_bind (wpAny_attempt (wpAny_callSpecial?_slot (name := Str.ofString "__next__") hit.typeIs PySem.F.slot_dict_keyiterator_next
    (wpAny_call_entry PySem.F.slot_dict_keyiterator_next hit.typeIs PySem.F.entry_dict_keyiterator_next ?_ (PySem.F.args_dict_keyiterator_next_1 _))))
  refine wpAny_bind (wpAny_pure ?_)
  refine wpAny_bind ?_
  refine wpAny_bind ?_
  first | refine wpAny_bind (wpAny_typeNameOfWhole_keyiter hit.typeIs (wpAny_pure ?_)) | refine wpAny_bind (wpAny_typeNameOf_keyiter hit.typeIs (wpAny_pure ?_))
  refine wpAny_bind (wpAny_fieldsOf ho hd ?_)
  have hown : Builtin.Dict_items.ownsTuple "dict_keyiterator" = false := by decide
  simp only [hown, Bool.false_eq_true, if_false]
  show wpAny _ _ (if (Value.ref d == Value.none) = true then _ else _) _ _ s
  rw [if_neg (show ¬ ((Value.ref d == Value.none) = true) from Bool.false_ne_true)]
  refine wpAny_bind (wpAny_pure ?_)
  refine wpAny_bind (wpAny_dictEntries hod hdd ?_)
  rw [if_neg (by simp)]
  refine wpAny_bind (wpAny_pure ?_)
  refine wpAny_bind (wpAny_dictEpoch hod hdd ?_)
  rw [if_neg (by simp)]
  refine wpAny_pure ?_
  simp only [show ¬ ((i : Int) < 0) from by omega, if_false, Int.toNat_natCast, Array.getElem?_eq_getElem hlt]
  refine wpAny_bind ?_
  first | refine wpAny_bind (wpAny_typeNameOfWhole_keyiter hit.typeIs (wpAny_pure ?_)) | refine wpAny_bind (wpAny_typeNameOf_keyiter hit.typeIs (wpAny_pure ?_))
  refine wpAny_bind (wpAny_isOneOf_keyiter hit.typeIs ?_)
  show wpAny _ _ (setField (.ref it) 1 (rawInt ((i : Int) + 1)) >>= _) _ _ s
  refine wpAny_bind (wpAny_setField ho hd (by simp) ?_)
  have hit' : (s.heap.update it (Obj.mapFields (·.setIfInBounds 1 (rawInt ((i : Int) + 1))))).IsKeyIter it d (i + 1) es.size ep :=
    ⟨_, Heap.get?_update_self _ ho (Obj.isFreed_of_fields (Obj.data_mapFields hd _)), (Obj.cls_mapFields ..).trans hc, by rw [Obj.data_mapFields hd]; simp [rawInt]⟩
  refine wpAny_bind (wpAny_holding ?_)
  refine wpAny_bind (wpAny_isOneOf_keyiter (s := { s with heap := s.heap.update it (Obj.mapFields (·.setIfInBounds 1 (rawInt ((i : Int) + 1)))) }) hit'.typeIs ?_)
  show wpAny _ _ (pure es[i].key) _ _ _
  exact wpAny_pure (wpAny_pure ⟨_, rfl, wpAny_pure (hQ _ hit' (Heap.SameBut.update ..))⟩)
theorem ent_end {Q : Option Value → Shared → Prop} (hh : A.handled = none) (hit : s.heap.IsKeyIter it d es.size es.size ep) (hm : EntAt es d ep s.heap)
    (hQ : ∀ h', Heap.ExtBut it s.heap h' → Q none { s with heap := h' }) : wpAny (model prog w) A (pyNext (.ref it)) Q E s := by
  obtain ⟨o, ho, hc, hd⟩ := id hit
  obtain ⟨od, hod, hcd, hdd⟩ := id hm
  unfold pyNext
  refine wpAny_bind (wpAny_attempt (wpAny_callSpecial?_slot (name := Str.ofString "__next__") hit.typeIs PySem.F.slot_dict_keyiterator_next
    (wpAny_call_entry PySem.F.slot_dict_keyiterator_next hit.typeIs PySem.F.entry_dict_keyiterator_next ?_ (PySem.F.args_dict_keyiterator_next_1 _))))
  refine wpAny_bind (wpAny_pure ?_)
  refine wpAny_bind ?_
  refine wpAny_bind ?_
  first | refine wpAny_bind (wpAny_typeNameOfWhole_keyiter hit.typeIs (wpAny_pure ?_)) | refine wpAny_bind (wpAny_typeNameOf_keyiter hit.typeIs (wpAny_pure ?_))
  refine wpAny_bind (wpAny_fieldsOf ho hd ?_)
  have hown : Builtin.Dict_items.ownsTuple "dict_keyiterator" = false := by decide
  simp only [hown, Bool.false_eq_true, if_false]
  show wpAny _ _ (if (Value.ref d == Value.none) = true then _ else _) _ _ s
  rw [if_neg (show ¬ ((Value.ref d == Value.none) = true) from Bool.false_ne_true)]
  refine wpAny_bind (wpAny_pure ?_)
  refine wpAny_bind (wpAny_dictEntries hod hdd ?_)
  rw [if_neg (by simp)]
  refine wpAny_bind (wpAny_pure ?_)
  refine wpAny_bind (wpAny_dictEpoch hod hdd ?_)
  rw [if_neg (by simp)]
  refine wpAny_pure ?_
  simp only [show ¬ ((es.size : Int) < 0) from by omega, if_false, Int.toNat_natCast, Array.getElem?_eq_none (Nat.le_refl es.size)]
  refine wpAny_bind ?_
  first | refine wpAny_bind (wpAny_typeNameOfWhole_keyiter hit.typeIs (wpAny_pure ?_)) | refine wpAny_bind (wpAny_typeNameOf_keyiter hit.typeIs (wpAny_pure ?_))
  show wpAny _ _ (setField (.ref it) 0 .none >>= _) _ _ s
  refine wpAny_bind (wpAny_setField ho hd (by simp) ?_)
  show wpAny _ _ (newExc (.type "StopIteration") [] >>= _) _ _ _
  refine wpAny_bind ?_
  simp only [newExc, newTuple]
  refine wpAny_bind (wpAny_newObj_type ?_ (by size_fits))
  refine wpAny_bind (m := firstArgMember _ _) (wpAny_of_eq (a := Value.none) (by first | rfl | (simp only [firstArgMember]; rfl)) ?_)
  refine wpAny_newObj_type ?_ (by size_fits)
  simp only [raiseNew]
  refine wpAny_bind (wpAny_handled ?_)
  rw [show A.in1.handled = none from hh]
  refine wpAny_bind (wpAny_pure (wpAny_throw ?_))
  refine wpAny_bind (wpAny_isInstance (T := "StopIteration") (b := true) ⟨_, Heap.get?_push_size _ rfl, rfl⟩ isSubtype_stop ?_)
  exact wpAny_pure (hQ _ (((Heap.SameBut.update ..).extBut.push _).push _))
end
def KeyAt (H : Hp) (z : V) (p : List Key × V) : Prop := ∃ b, z = .ref b ∧ H b = some (.tup (p.1.map kV))
theorem keys_all {H : Hp} : ∀ {kvs : List (List Key × V)} {xs : List (List Key × Addr × Value)}, KT H kvs xs → AllR (KeyAt H) (xs.map fun q => V.ref q.2.1) kvs
  | _, _, .nil => trivial
  | _, _, .cons h t => ⟨⟨_, rfl, h.2.1⟩, keys_all t⟩
section
variable {X : Cx}
end
end L3

namespace L3
open PySem PySem.Spec PyProof.Rows L2 HT
section
variable {X : Cx} {K : PySem.W.Frag}
end
section
variable {prog : Program} {w : World} {A : Around} {E : Value → Shared → Prop} {s : Shared}
end
section
variable {X : Cx} {a : Expr} {ta : TA} {p p2 pos pos2 : Pos}
end
end L3

namespace L3
open PySem PySem.Spec PyProof.Rows L2
def thenL (a b : List Int) : List Int := a.map fun i => b.getD i.toNat 0
theorem thenL_len {a b : List Int} : (thenL a b).length = a.length := by unfold thenL; rw [List.length_map]
theorem thenL_rng {S : Nat} {a b : List Int} (ha : Rng S a) (hb : Rng S b) (hl : b.length = S) : Rng S (thenL a b) := by
  intro x hx
  obtain ⟨i, hi, rfl⟩ := List.mem_map.mp hx
  have h1 := ha i hi
  have h2 : i.toNat < b.length := by omega
  refine hb _ ?_
  rw [List.getD_eq_getElem?_getD, List.getElem?_eq_getElem h2, Option.getD_some]
  exact List.getElem_mem h2
def cellT (tab : List (List Int)) (i j : Int) : Int := (tab.getD i.toNat []).getD j.toNat 0
def misT (tab : List (List Int)) (i j l : Nat) : Prop := cellT tab (cellT tab i j) l ≠ cellT tab i (cellT tab j l)
def FirstT (tab : List (List Int)) (i j l : Nat) : Prop := (i < tab.length ∧ j < tab.length ∧ l < tab.length) ∧ misT tab i j l ∧
  ∀ i' j' l' : Nat, i' < tab.length → j' < tab.length → l' < tab.length → (i' < i ∨ (i' = i ∧ (j' < j ∨ (j' = j ∧ l' < l)))) → ¬ misT tab i' j' l'
theorem FirstT.eq {tab : List (List Int)} {i j l i' j' l' : Nat} (a : FirstT tab i j l) (b : FirstT tab i' j' l') : i = i' ∧ j = j' ∧ l = l' := by
  have h1 : ¬ (i' < i ∨ (i' = i ∧ (j' < j ∨ (j' = j ∧ l' < l)))) := fun z => a.2.2 i' j' l' b.1.1 b.1.2.1 b.1.2.2 z b.2.1
  have h2 : ¬ (i < i' ∨ (i = i' ∧ (j < j' ∨ (j = j' ∧ l < l')))) := fun z => b.2.2 i j l a.1.1 a.1.2.1 a.1.2.2 z a.2.1
  omega
def BrkAt (K : PySem.W.Frag) (H : Hp) (tab : List (List Int)) (y : V) : Prop :=
  (y = .non ∧ ∀ i j l : Nat, i < tab.length → j < tab.length → l < tab.length → ¬ misT tab i j l) ∨ ∃ i j l : Nat, FirstT tab i j l ∧ BoardAt K H y [(i : Int), (j : Int), (l : Int)]
def FamD (H : Hp) (x : V) (fam : List (List Int)) : Prop := ∃ l kvs, x = .ref l ∧ H l = some (.dT kvs) ∧ kvs.map (·.1) = fam.map (List.map Sum.inl)
def brkD : Option (Nat × Nat × Nat) → PyData
  | none => .none
  | some t => intsD [(t.1 : Int), (t.2.1 : Int), (t.2.2 : Int)]
def BrkO (tab : List (List Int)) : Option (Nat × Nat × Nat) → Prop
  | none => ∀ i j l : Nat, i < tab.length → j < tab.length → l < tab.length → ¬ misT tab i j l
  | some t => FirstT tab t.1 t.2.1 t.2.2
theorem BrkO.eq {tab : List (List Int)} {o o' : Option (Nat × Nat × Nat)} (a : BrkO tab o) (b : BrkO tab o') : o = o' := by
  cases o with
  | none => cases o' with
    | none => rfl
    | some t => exact absurd b.2.1 (a _ _ _ b.1.1 b.1.2.1 b.1.2.2)
  | some t => cases o' with
    | none => exact absurd a.2.1 (b _ _ _ a.1.1 a.1.2.1 a.1.2.2)
    | some t' =>
      obtain ⟨i, j, l⟩ := t
      obtain ⟨i', j', l'⟩ := t'
      obtain ⟨e1, e2, e3⟩ := FirstT.eq a b
      rw [show i = i' from e1, show j = j' from e2, show l = l' from e3]
theorem BrkAt.o {K : PySem.W.Frag} {H : Hp} {tab : List (List Int)} {y : V} (h : BrkAt K H tab y) : ∃ o, BrkO tab o ∧ Dat K H y (brkD o) ∧ ((o = none ∧ y = .non) ∨ ∃ a, y = .ref a) := by
  rcases h with ⟨rfl, h⟩ | ⟨i, j, l, h, hb⟩
  · exact ⟨none, h, .non, .inl ⟨rfl, rfl⟩⟩
  · exact ⟨some (i, j, l), h, hb.dat, .inr (let ⟨a, e, _⟩ := hb; ⟨a, e⟩)⟩
theorem BrkAt.grow {K : PySem.W.Frag} {m : List Addr} {H H' : Hp} {tab : List (List Int)} {y : V} (h : BrkAt K H tab y) (g : Grow m H H') : BrkAt K H' tab y := by
  rcases h with h | ⟨i, j, l, h, hb⟩
  · exact .inl h
  · exact .inr ⟨i, j, l, h, g.board hb⟩
section
variable {X : Cx} {K : PySem.W.Frag}
end
def TabG (K : PySem.W.Frag) (H : Hp) (y : V) (tab : List (List Int)) : Prop := RowsAt K H y tab ∧ 1 ≤ tab.length ∧ tab.length ≤ 60 ∧ TabOk tab.length tab.length tab
def AskedAt (K : PySem.W.Frag) (H : Hp) (z : V) : Prop := ∃ t y1 y2 tab, z = .ref t ∧ SqT K H t [y1, y2] ∧ TabG K H y1 tab ∧ BrkAt K H tab y2
theorem AskedAt.grow {K : PySem.W.Frag} {m : List Addr} {H H' : Hp} {z : V} (h : AskedAt K H z) (g : Grow m H H') : AskedAt K H' z := by
  obtain ⟨t, y1, y2, tab, e, h1, ⟨h2, h3⟩, h4⟩ := h
  exact ⟨t, y1, y2, tab, e, g.sqT h1, ⟨g.rows h2, h3⟩, h4.grow g⟩
end L3

namespace L3
end L3

namespace L3
theorem nd1 {α : Type} {a : α} : [a].Nodup := List.nodup_cons.mpr ⟨(fun z => nomatch z), List.nodup_nil⟩
def idL (S : Nat) : List Int := (List.range S).map fun i : Nat => (i : Int)
abbrev FW := List (List Int × List Int)
def keysF (f : FW) : List (List Int) := f.map (·.1)
def wordOf (f : FW) (d : List Int) : Option (List Int) := (f.find? fun p => decide (p.1 = d)).map (·.2)
theorem wordOf_some {d : List Int} : ∀ {f : FW}, d ∈ keysF f → ∃ w, wordOf f d = some w
  | [], h => by cases h
  | p :: f, h => by
    by_cases e : p.1 = d
    · exact ⟨p.2, by simp [wordOf, List.find?_cons, e]⟩
    · have : d ∈ keysF f := by
        rcases List.mem_cons.mp h with h | h
        · exact absurd h.symm e
        · exact h
      obtain ⟨w, hw⟩ := wordOf_some this
      exact ⟨w, by simpa [wordOf, List.find?_cons, e] using hw⟩
theorem wordOf_in {d w : List Int} : ∀ {f : FW}, wordOf f d = some w → (d, w) ∈ f
  | [], h => by cases h
  | p :: f, h => by
    by_cases e : p.1 = d
    · have h' : p.2 = w := by simpa [wordOf, List.find?_cons, e] using h
      exact List.mem_cons.mpr (.inl (by rw [← e, ← h']))
    · exact List.mem_cons.mpr (.inr (wordOf_in (by simpa [wordOf, List.find?_cons, e] using h)))
theorem wordOf_key {f : FW} {d w : List Int} (h : wordOf f d = some w) : d ∈ keysF f := List.mem_map.mpr ⟨_, wordOf_in h, rfl⟩
theorem wordOf_none {f : FW} {d : List Int} (h : ¬ (wordOf f d).isSome = true) : d ∉ keysF f := fun z => by
  obtain ⟨w, hw⟩ := wordOf_some z
  rw [hw] at h; exact h rfl
def fStep (d : List Int) (fm : FW × List (List Int)) (n : Nat) (m : List Int) : FW × List (List Int) :=
  if (wordOf fm.1 (thenL d m)).isSome = true then fm else (fm.1 ++ [(thenL d m, (wordOf fm.1 d).getD [] ++ [(n : Int)])], fm.2 ++ [thenL d m])
def fRow (ms : List (List Int)) (d : List Int) : Nat → FW × List (List Int) → FW × List (List Int)
  | 0, fm => fm
  | i + 1, fm => fStep d (fRow ms d i fm) i (ms.getD i [])
def fPass (ms last : List (List Int)) : Nat → FW × List (List Int) → FW × List (List Int)
  | 0, fm => fm
  | j + 1, fm => fRow ms (last.getD j []) ms.length (fPass ms last j fm)
inductive FamR (ms : List (List Int)) : FW → List (List Int) → FW → Prop
  | done {f : FW} {last : List (List Int)} : last = [] ∨ 60 < f.length → FamR ms f last f
  | step {f r : FW} {last : List (List Int)} : last ≠ [] → f.length ≤ 60 → FamR ms (fPass ms last last.length (f, [])).1 (fPass ms last last.length (f, [])).2 r → FamR ms f last r
theorem FamR.eq {ms : List (List Int)} {f r : FW} {last : List (List Int)} (a : FamR ms f last r) : ∀ {r'}, FamR ms f last r' → r = r' := by
  induction a with
  | done h =>
    intro r' b
    cases b with
    | done _ => rfl
    | step h1 h2 _ => rcases h with h | h
                      · exact absurd h h1
                      · omega
  | step h1 h2 _ ih =>
    intro r' b
    cases b with
    | done h => rcases h with h | h
                · exact absurd h h1
                · omega
    | step _ _ c => exact ih c
inductive Word (ms : List (List Int)) (S : Nat) : List Int → Prop
  | id : Word ms S (idL S)
  | more {d m : List Int} : Word ms S d → m ∈ ms → Word ms S (thenL d m)
def Mks (ms : List (List Int)) (S : Nat) : Prop := ∀ m ∈ ms, m.length = S ∧ Rng S m
def Dd (S : Nat) (d : List Int) : Prop := d.length = S ∧ Rng S d
theorem idL_dd (S : Nat) : Dd S (idL S) := by
  refine ⟨by unfold idL; rw [List.length_map, List.length_range], fun v hv => ?_⟩
  obtain ⟨i, hi, rfl⟩ := List.mem_map.mp hv
  have := List.mem_range.mp hi
  omega
theorem thenL_dd {S : Nat} {a b : List Int} (ha : Dd S a) (hb : Dd S b) : Dd S (thenL a b) := ⟨thenL_len.trans ha.1, thenL_rng ha.2 hb.2 hb.1⟩
theorem Word.dd {ms : List (List Int)} {S : Nat} (hm : Mks ms S) {d : List Int} (h : Word ms S d) : Dd S d := by
  induction h with
  | id => exact idL_dd S
  | more _ h ih => exact thenL_dd ih (hm _ h)
theorem idL_get {S : Nat} {i : Int} (h0 : 0 ≤ i) (h1 : i < S) : (idL S).getD i.toNat 0 = i := by
  have : i.toNat < S := by omega
  unfold idL
  rw [List.getD_eq_getElem?_getD, List.getElem?_map, List.getElem?_range this]
  show ((i.toNat : Nat) : Int) = i
  omega
theorem thenL_id {S : Nat} {a : List Int} (ha : Dd S a) : thenL a (idL S) = a := by
  unfold thenL
  conv => rhs; rw [← List.map_id a]
  refine List.map_congr_left fun i hi => ?_
  obtain ⟨h0, h1⟩ := ha.2 i hi
  exact idL_get h0 h1
theorem thenL_assoc {S : Nat} {a b c : List Int} (ha : Dd S a) (hb : b.length = S) : thenL a (thenL b c) = thenL (thenL a b) c := by
  unfold thenL
  rw [List.map_map]
  refine List.map_congr_left fun i hi => ?_
  obtain ⟨h0, h1⟩ := ha.2 i hi
  have hi' : i.toNat < b.length := by omega
  show (b.map fun i => c.getD i.toNat 0).getD i.toNat 0 = c.getD (b.getD i.toNat 0).toNat 0
  rw [List.getD_eq_getElem?_getD, List.getElem?_map, List.getElem?_eq_getElem hi', List.getD_eq_getElem?_getD (l := b), List.getElem?_eq_getElem hi']
  rfl
theorem Word.mul {ms : List (List Int)} {S : Nat} (hm : Mks ms S) {a b : List Int} (ha : Word ms S a) (hb : Word ms S b) : Word ms S (thenL a b) := by
  induction hb with
  | id => rw [thenL_id (ha.dd hm)]; exact ha
  | more h1 h2 ih => rw [thenL_assoc (ha.dd hm) (h1.dd hm).1]; exact .more ih h2
def Ex (fm fm' : FW × List (List Int)) : Prop := ∃ g : FW, fm'.1 = fm.1 ++ g ∧ fm'.2 = fm.2 ++ keysF g
theorem Ex.refl (fm : FW × List (List Int)) : Ex fm fm := ⟨[], by rw [List.append_nil], by show _ = _ ++ []; rw [List.append_nil]⟩
theorem Ex.trans {a b c : FW × List (List Int)} (h : Ex a b) (k : Ex b c) : Ex a c := by
  obtain ⟨g, h1, h2⟩ := h
  obtain ⟨g', k1, k2⟩ := k
  exact ⟨g ++ g', by rw [k1, h1, List.append_assoc], by rw [k2, h2, List.append_assoc]; unfold keysF; rw [List.map_append]⟩
theorem Ex.keys {a b : FW × List (List Int)} (h : Ex a b) {d : List Int} (hd : d ∈ keysF a.1) : d ∈ keysF b.1 := by
  obtain ⟨g, h1, _⟩ := h
  unfold keysF at *
  rw [h1, List.map_append]
  exact List.mem_append.mpr (.inl hd)
theorem fStep_ex {d m : List Int} {fm : FW × List (List Int)} {n : Nat} : Ex fm (fStep d fm n m) := by
  unfold fStep
  split
  · exact Ex.refl fm
  · exact ⟨[_], rfl, rfl⟩
theorem fRow_ex {ms : List (List Int)} {d : List Int} {fm : FW × List (List Int)} : ∀ i, Ex fm (fRow ms d i fm)
  | 0 => Ex.refl fm
  | i + 1 => (fRow_ex i).trans fStep_ex
theorem fPass_ex {ms last : List (List Int)} {fm : FW × List (List Int)} : ∀ j, Ex fm (fPass ms last j fm)
  | 0 => Ex.refl fm
  | j + 1 => (fPass_ex j).trans (fRow_ex _)
theorem fStep_in {d m : List Int} {fm : FW × List (List Int)} {n : Nat} : thenL d m ∈ keysF (fStep d fm n m).1 := by
  unfold fStep
  split
  · rename_i h
    obtain ⟨w, hw⟩ := Option.isSome_iff_exists.mp h
    exact wordOf_key hw
  · unfold keysF; rw [List.map_append]; exact List.mem_append.mpr (.inr (List.mem_singleton.mpr rfl))
theorem fRow_in {ms : List (List Int)} {d : List Int} {fm : FW × List (List Int)} : ∀ i, ∀ k < i, thenL d (ms.getD k []) ∈ keysF (fRow ms d i fm).1
  | 0, _, h => by cases h
  | i + 1, k, h => by
    by_cases e : k = i
    · rw [e]; exact fStep_in
    · exact fStep_ex.keys (fRow_in i k (by omega))
theorem fPass_in {ms last : List (List Int)} {fm : FW × List (List Int)} : ∀ j, ∀ k < j, ∀ i < ms.length, thenL (last.getD k []) (ms.getD i []) ∈ keysF (fPass ms last j fm).1
  | 0, _, h, _, _ => by cases h
  | j + 1, k, h, i, hi => by
    by_cases e : k = j
    · rw [e]; exact fRow_in _ i hi
    · exact (fRow_ex _).keys (fPass_in j k (by omega) i hi)
structure GoodF (ms : List (List Int)) (S : Nat) (f : FW) : Prop where
  nd : (keysF f).Nodup
  wd : ∀ d ∈ keysF f, Word ms S d
theorem fStep_good {ms : List (List Int)} {S : Nat} {d m : List Int} {fm : FW × List (List Int)} {n : Nat} (h : GoodF ms S fm.1) (hd : Word ms S d) (hm : m ∈ ms) : GoodF ms S (fStep d fm n m).1 := by
  unfold fStep
  split
  · exact h
  · rename_i c
    have hn := wordOf_none c
    refine ⟨?_, fun z hz => ?_⟩
    · show (keysF (fm.1 ++ [_])).Nodup
      unfold keysF at hn ⊢
      rw [List.map_append]
      refine List.nodup_append.mpr ⟨h.nd, nd1, fun a ha b hb e => ?_⟩
      rw [e, List.mem_singleton.mp hb] at ha
      exact hn ha
    · unfold keysF at hz
      rw [List.map_append] at hz
      rcases List.mem_append.mp hz with hz | hz
      · exact h.wd z hz
      · rw [List.mem_singleton.mp hz]; exact .more hd hm
theorem getD_mem {ms : List (List Int)} {i : Nat} (h : i < ms.length) : ms.getD i [] ∈ ms := by
  rw [List.getD_eq_getElem?_getD, List.getElem?_eq_getElem h]; exact List.getElem_mem h
theorem fRow_good {ms : List (List Int)} {S : Nat} {d : List Int} {fm : FW × List (List Int)} (h : GoodF ms S fm.1) (hd : Word ms S d) : ∀ i, i ≤ ms.length → GoodF ms S (fRow ms d i fm).1
  | 0, _ => h
  | i + 1, hi => fStep_good (fRow_good h hd i (by omega)) hd (getD_mem (by omega))
theorem fPass_good {ms last : List (List Int)} {S : Nat} {fm : FW × List (List Int)} (h : GoodF ms S fm.1) (hd : ∀ d ∈ last, Word ms S d) : ∀ j, j ≤ last.length → GoodF ms S (fPass ms last j fm).1
  | 0, _ => h
  | j + 1, hj => fRow_good (fPass_good h hd j (by omega)) (hd _ (getD_mem (by omega))) _ (Nat.le_refl _)
structure LI (ms : List (List Int)) (S : Nat) (f : FW) (last : List (List Int)) : Prop where
  good : GoodF ms S f
  idk : idL S ∈ keysF f
  sub : ∀ d ∈ last, d ∈ keysF f
  len : last.length ≤ f.length
  cl : ∀ d ∈ keysF f, d ∉ last → ∀ m ∈ ms, thenL d m ∈ keysF f
  hd : f.head? = some (idL S, [])
theorem LI.init (ms : List (List Int)) (S : Nat) : LI ms S [(idL S, [])] [idL S] where
  good := ⟨nd1, fun d hd => by rw [List.mem_singleton.mp hd]; exact .id⟩
  idk := List.mem_singleton.mpr rfl
  sub := fun d hd => hd
  len := Nat.le_refl _
  cl := fun d hd hn => absurd hd hn
  hd := rfl
theorem mem_getD {l : List (List Int)} {d : List Int} (h : d ∈ l) : ∃ k < l.length, l.getD k [] = d := by
  obtain ⟨k, hk, e⟩ := List.mem_iff_getElem.mp h
  exact ⟨k, hk, by rw [List.getD_eq_getElem?_getD, List.getElem?_eq_getElem hk]; exact e⟩
theorem LI.pass {ms last : List (List Int)} {S : Nat} {f : FW} (h : LI ms S f last) : LI ms S (fPass ms last last.length (f, [])).1 (fPass ms last last.length (f, [])).2 := by
  have hE : Ex (f, []) (fPass ms last last.length (f, [])) := fPass_ex _
  have hI := fun k hk i hi => fPass_in (ms := ms) (last := last) (fm := (f, [])) last.length k hk i hi
  have hG := fPass_good (last := last) (fm := (f, [])) h.good (fun d hd => h.good.wd d (h.sub d hd)) last.length (Nat.le_refl _)
  revert hE hI hG
  generalize fPass ms last last.length (f, []) = fm
  intro hE hI hG
  obtain ⟨g, e1, e2⟩ := id hE
  rw [List.nil_append] at e2
  have ek : keysF fm.1 = keysF f ++ keysF g := by rw [e1]; unfold keysF; rw [List.map_append]
  refine ⟨hG, hE.keys h.idk, fun d hd => ?_, ?_, fun d hd hn m hm => ?_, ?_⟩
  · rw [ek]; rw [e2] at hd; exact List.mem_append.mpr (.inr hd)
  · rw [e2, e1, List.length_append]; unfold keysF; rw [List.length_map]; omega
  · rw [ek] at hd
    rcases List.mem_append.mp hd with hd | hd
    · by_cases w : d ∈ last
      · obtain ⟨k, hk, rfl⟩ := mem_getD w
        obtain ⟨i, hi, rfl⟩ := mem_getD hm
        exact hI k hk i hi
      · exact hE.keys (h.cl d hd w m hm)
    · rw [e2] at hn; exact absurd hd hn
  · rw [e1, List.head?_append, h.hd]; rfl
structure FamOk (ms : List (List Int)) (S : Nat) (r : FW) : Prop where
  good : GoodF ms S r
  idk : idL S ∈ keysF r
  cl : r.length ≤ 60 → ∀ d ∈ keysF r, ∀ m ∈ ms, thenL d m ∈ keysF r
  hd : r.head? = some (idL S, [])
theorem FamR.ok {ms last : List (List Int)} {S : Nat} {f r : FW} (a : FamR ms f last r) (h : LI ms S f last) : FamOk ms S r := by
  induction a with
  | done c =>
    refine ⟨h.good, h.idk, fun hl d hd m hm => ?_, h.hd⟩
    rcases c with rfl | c
    · exact h.cl d hd (fun z => by cases z) m hm
    · omega
  | step _ _ _ ih => exact ih h.pass
def FamL (ms : List (List Int)) (S : Nat) (r : FW) : Prop := FamR ms [(idL S, [])] [idL S] r
theorem FamL.ok {ms : List (List Int)} {S : Nat} {r : FW} (h : FamL ms S r) : FamOk ms S r := FamR.ok h (LI.init ms S)
def Few (ms : List (List Int)) (S : Nat) : Prop := ∃ l : List (List Int), l.length ≤ 60 ∧ ∀ d, Word ms S d → d ∈ l
theorem FamOk.all {ms : List (List Int)} {S : Nat} {r : FW} (h : FamOk ms S r) (hl : r.length ≤ 60) {d : List Int} (hd : Word ms S d) : d ∈ keysF r := by
  induction hd with
  | id => exact h.idk
  | more _ hm ih => exact h.cl hl _ ih _ hm
theorem FamOk.few {ms : List (List Int)} {S : Nat} {r : FW} (h : FamOk ms S r) (hl : r.length ≤ 60) : Few ms S := ⟨keysF r, by unfold keysF; rw [List.length_map]; exact hl, fun _ hd => h.all hl hd⟩
theorem nodup_le : ∀ {l l' : List (List Int)}, l.Nodup → (∀ x ∈ l, x ∈ l') → l.length ≤ l'.length
  | [], _, _, _ => Nat.zero_le _
  | a :: l, l', hn, h => by
    have ha : a ∈ l' := h a (List.mem_cons.mpr (.inl rfl))
    obtain ⟨h1, h2⟩ := List.nodup_cons.mp hn
    have := nodup_le (l := l) (l' := l'.erase a) h2 fun x hx => (List.mem_erase_of_ne (fun e => h1 (by rw [← e]; exact hx))).mpr (h x (List.mem_cons.mpr (.inr hx)))
    rw [List.length_erase_of_mem ha] at this
    have : 0 < l'.length := List.length_pos_of_mem ha
    rw [List.length_cons]; omega
theorem FamOk.le {ms : List (List Int)} {S : Nat} {r : FW} (h : FamOk ms S r) (hf : Few ms S) : r.length ≤ 60 := by
  obtain ⟨l, hl, hw⟩ := hf
  have := nodup_le h.good.nd fun d hd => hw d (h.good.wd d hd)
  unfold keysF at this
  rw [List.length_map] at this
  omega
end L3

namespace L3
open PySem PySem.Spec PyProof.Rows L2
def KeyB (H : Hp) (y : V) (row : List Int) : Prop := ∃ b, y = .ref b ∧ H b = some (.tup (row.map V.int))
theorem KeyB.board {K : PySem.W.Frag} {H : Hp} {y : V} {row : List Int} (h : KeyB H y row) : BoardAt K H y row := let ⟨b, e, hb⟩ := h; ⟨b, e, SqT.of hb⟩
theorem KeyB.grow {m : List Addr} {H H' : Hp} {y : V} {row : List Int} (h : KeyB H y row) (g : Grow m H H') : KeyB H' y row := let ⟨b, e, hb⟩ := h; ⟨b, e, g.tup _ _ hb⟩
def kI (d : List Int) : List Key := d.map Sum.inl
theorem kI_inj : ∀ {a b : List Int}, kI a = kI b → a = b
  | [], [], _ => rfl
  | [], _ :: _, e => by cases e
  | _ :: _, [], e => by cases e
  | x :: a, y :: b, e => by
    unfold kI at e
    rw [List.map_cons, List.map_cons] at e
    injection e with e1 e2
    rw [Sum.inl.inj e1, kI_inj e2]
def KvF (K : PySem.W.Frag) (H : Hp) : List (List Key × V) → FW → Prop
  | [], [] => True
  | p :: kvs, q :: f => (p.1 = kI q.1 ∧ BoardAt K H p.2 q.2) ∧ KvF K H kvs f
  | _, _ => False
section
variable {K : PySem.W.Frag} {H H' : Hp} {m : List Addr}
theorem KvF.len : ∀ {kvs : List (List Key × V)} {f : FW}, KvF K H kvs f → kvs.length = f.length
  | [], [], _ => rfl
  | _ :: _, _ :: _, h => by rw [List.length_cons, List.length_cons, KvF.len h.2]
  | [], _ :: _, h => h.elim
  | _ :: _, [], h => h.elim
theorem KvF.keys : ∀ {kvs : List (List Key × V)} {f : FW}, KvF K H kvs f → kvs.map (·.1) = (keysF f).map (List.map Sum.inl)
  | [], [], _ => rfl
  | p :: kvs, q :: f, h => by
    show p.1 :: kvs.map (·.1) = q.1.map Sum.inl :: (keysF f).map (List.map Sum.inl)
    rw [KvF.keys h.2, h.1.1]; rfl
  | [], _ :: _, h => h.elim
  | _ :: _, [], h => h.elim
theorem KvF.grow (g : Grow m H H') : ∀ {kvs : List (List Key × V)} {f : FW}, KvF K H kvs f → KvF K H' kvs f
  | [], [], _ => trivial
  | _ :: _, _ :: _, h => ⟨⟨h.1.1, g.board h.1.2⟩, KvF.grow g h.2⟩
  | [], _ :: _, h => h.elim
  | _ :: _, [], h => h.elim
theorem KvF.app : ∀ {kvs : List (List Key × V)} {f : FW} {kvs' : List (List Key × V)} {f' : FW}, KvF K H kvs f → KvF K H kvs' f' → KvF K H (kvs ++ kvs') (f ++ f')
  | [], [], _, _, _, k => k
  | _ :: _, _ :: _, _, _, h, k => ⟨h.1, KvF.app h.2 k⟩
  | [], _ :: _, _, _, h, _ => h.elim
  | _ :: _, [], _, _, h, _ => h.elim
theorem KvF.val (d : List Int) : ∀ {kvs : List (List Key × V)} {f : FW}, KvF K H kvs f → (∃ v w, valV kvs (kI d) = some v ∧ wordOf f d = some w ∧ BoardAt K H v w) ∨ (valV kvs (kI d) = none ∧ wordOf f d = none)
  | [], [], _ => .inr ⟨rfl, rfl⟩
  | p :: kvs, q :: f, h => by
    by_cases e : q.1 = d
    · exact .inl ⟨p.2, q.2, valV_pos (by rw [h.1.1, e]), by simp [wordOf, List.find?_cons, e], h.1.2⟩
    · have e' : ¬ p.1 = kI d := fun z => e (kI_inj (h.1.1.symm.trans z))
      have ew : wordOf (q :: f) d = wordOf f d := by simp [wordOf, List.find?_cons, e]
      rw [valV_neg e', ew]
      exact KvF.val d h.2
  | [], _ :: _, h => h.elim
  | _ :: _, [], h => h.elim
end
theorem Mks.take {ms : List (List Int)} {S n : Nat} (h : Mks ms S) : Mks (ms.take n) S := fun m hm => h m (List.mem_of_mem_take hm)
def FamW (K : PySem.W.Frag) (H : Hp) (y : V) (f : FW) : Prop := ∃ l kvs, y = .ref l ∧ H l = some (.dT kvs) ∧ KvF K H kvs f
theorem FamW.d {K : PySem.W.Frag} {H : Hp} {y : V} {f : FW} (h : FamW K H y f) : FamD H y (keysF f) := let ⟨l, kvs, e, hl, hk⟩ := h; ⟨l, kvs, e, hl, hk.keys⟩
theorem Room.u1F {k : Nat} {A : Around} (r : Room k A) : A.units + 1 < cLine := by have := r.un; omega
end L3

namespace L3
open PySem PySem.Spec PyProof.Rows L2
section
variable {prog : Program} {w : World} {A : Around} {R : Result → Shared → Prop} {s : Shared}
theorem comp_loopD {kx vx target iter : Expr} {ifs : List Expr} {scope : Scope} {pos : Pos} {it : Value} {D : Addr} {env : Env} (I : Nat → Shared → Prop)
    (turn : ∀ n s, I n s → wpAny (model prog w) A (pyNext it) (fun r s₁ => match r with
      | none => R (.ok .next) s₁
      | some v => wpAny (model prog w) A (letOwnedTupleGo target it v) (fun _ s₂ => wpAny (model prog w) A (assign target env v) (fun _ s₃ =>
          wpAny (model prog w) A (forIn ifs true fun c r => if r = true then do let ok ← isTrue c env (eval c env); pure (ForInStep.yield ok) else pure (ForInStep.yield r)) (fun ok s₄ =>
            if ok = true then wpAny (model prog w) A (eval kx env) (fun kv s₅ => wpAny (model prog w) A (eval vx env) (fun vv s₆ =>
              wpAny (model prog w) A (dictSet D kv vv) (fun _ s₇ => ∃ m, m < n ∧ I m s₇) (fun _ _ => False) s₆) (fun _ _ => False) s₅) (fun _ _ => False) s₄
            else ∃ m, m < n ∧ I m s₄) (fun _ _ => False) s₃) (fun _ _ => False) s₂) (fun _ _ => False) s₁) (fun _ _ => False) s)
    (n : Nat) (h : I n s) :
    codeAny (model prog w) A (.compLoop (.DictComp kx vx [⟨target, iter, ifs, 0⟩] scope pos) 0 it (.ref D) env) R s := by
  refine codeAny_loop rfl I (fun n s hI => ?_) n h
  show wpAny _ A ((compTurn (.DictComp kx vx [⟨target, iter, ifs, 0⟩] scope pos) 0 it (.ref D) env).onRaise (fun x => do noteFrame x env; theTreesLotGoes x)) _ _ s
  refine wpAny_noted ?_
  rw [compTurn_dict]
  have no : ∀ (E : Value → Shared → Prop) (e : Value) (s : Shared), (fun (_ : Value) (_ : Shared) => False) e s → E e s := fun _ _ _ f => f.elim
  refine wpAny_bind (wpAny_standAt (wpAny_bind (wpAny_mono (turn n s hI) (fun r s₁ h₁ => ?_) (no _))))
  cases r with
  | none => exact wpAny_pure h₁
  | some v =>
    refine wpAny_bind (wpAny_mono h₁ (fun _ s₂ h₂ => ?_) (no _))
    refine wpAny_bind (wpAny_mono h₂ (fun _ s₃ h₃ => wpAny_bind (wpAny_mono h₃ (fun ok s₄ h₄ => ?_) (no _))) (no _))
    cases ok with
    | false => exact wpAny_pure ⟨rfl, h₄⟩
    | true =>
      exact wpAny_bind (wpAny_bind (wpAny_mono h₄ (fun kv s₅ h₅ => wpAny_bind (wpAny_holding (wpAny_mono h₅ (fun vv s₆ h₆ => wpAny_bind (wpAny_standAt (wpAny_holding (wpAny_mono h₆ (fun _ s₇ h₇ => wpAny_pure ⟨rfl, h₇⟩) (no _))))) (no _)))) (no _)))
end
def DRaw (prog : Program) (w : World) (Hb : Hp) (h : Heap) (D : Addr) (o : Obj) (kvs : List (List Key × V)) : Prop :=
  kvs.length ≤ sizeLine ∧ (D == sysModules) = false ∧ ∃ xs : List (List Key × Addr × Value), KT Hb kvs xs ∧ ∃ es ep, h.get? D = some o ∧ o.ExactDict ∧ o.data = .dict es ep ∧ es.toList = xs.map (entryOfKey (tupleKind (mixKind prog w))) ∧ (xs.map (·.1)).Nodup
theorem DRaw.at {prog : Program} {w : World} {Hb : Hp} {h h' : Heap} {D : Addr} {o : Obj} {kvs : List (List Key × V)} (r : DRaw prog w Hb h D o kvs) (e : h'.get? D = some o) : DRaw prog w Hb h' D o kvs :=
  let ⟨z, y, xs, k, es, ep, _, h2, h3, h4, h5⟩ := r; ⟨z, y, xs, k, es, ep, e, h2, h3, h4, h5⟩
theorem DRaw.obj {prog : Program} {w : World} {Hb H' : Hp} {h : Heap} {D : Addr} {o : Obj} {kvs : List (List Key × V)} (r : DRaw prog w Hb h D o kvs) (hk : ∀ b xs, Hb b = some (.tup xs) → H' b = some (.tup xs)) : ObjOk prog w H' h D (.dT kvs) :=
  let ⟨z, y, xs, k, es, ep, h1, h2, h3, h4, h5⟩ := r; ⟨z, y, xs, k.keeps hk, o, es, ep, h1, h2, h3, h4, h5⟩
theorem DRaw.nocell {prog : Program} {w : World} {Hb : Hp} {h : Heap} {D : Addr} {o : Obj} {kvs : List (List Key × V)} (r : DRaw prog w Hb h D o kvs) (v : Option Value) : o.data ≠ .cell v := by
  obtain ⟨_, _, _, _, es, ep, _, _, h3, _⟩ := r
  rw [h3]; intro z; cases z
section
variable {X : Cx} {pins : List (Addr × Obj)} {σ : L2.St} {H2 : Hp} {s₂ : Shared} {it : Addr} {fp : List Addr} {tn : Nat → Heap → Prop} {J : It} {scope : Scope} {cl : List (Str × Addr)} {N' : List Str} {sub : List (Option Nat)}
end
section
variable {X : Cx} {scope : Scope} {N' : List Str} {sub : List (Option Nat)} {tg : Expr} {pos : Pos} {kx vx iter : Expr} {ifs : List Expr} {wi : TI} {g : TG} {tt : TT} {tk tv : TE}
end
end L3

namespace L3
open PySem PySem.Spec PyProof.Rows L2
def CompWE (J : It) (σ0 : L2.St) (H1 : Hp) (g : TG) (tt : TT) (tk tv : TE) (Q : VK) : Prop :=
  ∃ W : Nat → Nat → List (List Key × V) → Hp → L2.St → Hp → Prop, (∃ m, W 0 m [] H1 σ0 H1) ∧ ∀ i m kvs Hb σ' H', W i m kvs Hb σ' H' →
    (J.stop i H' ∧ (∀ b xs, Hb b = some (.tup xs) → H' b = some (.tup xs)) ∧ ∀ l, H' l = none → Q (.ref l) (upd H' l (.dT kvs))) ∨
    (J.go i H' ∧ ∃ Nn : List (List Key × V) → Hp → L2.St → Hp → Prop, (∀ zs Hc σ2 H2, Nn zs Hc σ2 H2 → ∃ m', m' < m ∧ W (i + 1) m' zs Hc σ2 H2) ∧
      ∀ x H2, J.yld i H' x H2 → g x σ' H2 fun σ2 H3 => tt σ2 H3 fun b H4 => if b = true then tk σ2 H4 fun y H5 => tv σ2 H5 fun v H6 => kvs.length < sizeLine ∧ ∃ b ks, y = .ref b ∧ H6 b = some (.tup (ks.map kV)) ∧ (∀ c xs, Hb c = some (.tup xs) → H6 c = some (.tup xs)) ∧ Nn (putK kvs ks v) H6 σ2 H6 else Nn kvs Hb σ2 H4)
def tCompE (wi : TI) (sub : List (Option Nat)) (g : TG) (tt : TT) (tk tv : TE) : TE := fun σ H Q => wi σ H fun J H1 => CompWE J (capt sub σ) H1 g tt tk tv Q
section
variable {X : Cx} {pins : List (Addr × Obj)} {σ : L2.St} {H2 : Hp} {s₂ : Shared} {it : Addr} {fp : List Addr} {tn : Nat → Heap → Prop} {J : It} {scope : Scope} {cl : List (Str × Addr)} {N' : List Str} {sub : List (Option Nat)}
theorem comp_finE {C D : Addr} {s₀ : Shared} {s' : Shared} {σ' : L2.St} {H' Hb : Hp} {kvs : List (List Key × V)} {o oC : Obj} (I : Inv X pins σ H2 s₂)
    (hs₀ : ∀ b o, s₂.heap.get? b = some o → s₀.heap.get? b = some o) (hos : s₀.os = s₂.os) (hD : s₂.heap.objs.size ≤ D) (hC : s₂.heap.objs.size ≤ C) (hDC : D ≠ C) (f2 : ∀ b ∈ fp, FpOk X pins H2 b)
    (I' : Inv (cxC X N' scope cl C D fp s₀ H2) pins σ' H' s') (hn : H' D = none) (hb : ∀ b xs, Hb b = some (.tup xs) → H' b = some (.tup xs)) (rv : DRaw X.prog X.w Hb s'.heap D o kvs)
    (ho : s'.heap.get? C = some oC) (hd : ∀ v, oC.data ≠ .cell v) : Inv X (pins ++ [(C, oC)]) σ (upd H' D (.dT kvs)) s' ∧ FpOk X pins (upd H' D (.dT kvs)) C := by
  have neD : ∀ b o, s₂.heap.get? b = some o → b ≠ D := fun b o e => Nat.ne_of_lt (Nat.lt_of_lt_of_le (Heap.lt_size e) hD)
  have nm : ∀ b o, s₂.heap.get? b = some o → b ∉ fp → b ∉ D :: fp := fun b o e h z => (List.mem_cons.mp z).elim (neD b o e) h
  have U := I'.base
  have HC : upd H' D (.dT kvs) C = none := by rw [upd_ne (Ne.symm hDC)]; exact I'.free
  have fpc : FpOk X pins (upd H' D (.dT kvs)) C := I.fpOk hC HC
  have tp : ∀ b xs, H2 b = some (.tup xs) → upd H' D (.dT kvs) b = some (.tup xs) := fun b xs e => by have z := U.tups b xs e; rw [upd_ne (ne_of_none z hn)]; exact z
  have un : Un (frs X.stack) fp H2 (upd H' D (.dT kvs)) s₂.heap s'.heap :=
    { keep := fun b o e n h1 h2 => U.keep b o (hs₀ b o e) n h1 (nm b o e h2)
      slot := fun b o e n h1 h2 => U.slot b o (hs₀ b o e) n h1 (nm b o e h2)
      free := fun b o e n h2 => by rw [upd_ne (neD b o e)]; exact U.free b o (hs₀ b o e) n (nm b o e h2)
      there := fun b o e h2 => U.there b o (hs₀ b o e) (nm b o e h2)
      tups := tp
      frzs := fun b o u e => by have z := U.frzs b o u e; rw [upd_ne (ne_of_none z hn)]; exact z
      tbls := fun b ps e => by obtain ⟨more, z⟩ := U.tbls b ps e; exact ⟨more, by rw [upd_ne (ne_of_none z hn)]; exact z⟩ }
  have hok : HOk X.prog X.w (upd H' D (.dT kvs)) s'.heap := HOk.track I'.hok hn (rv.obj fun b xs e => by have z := hb b xs e; rw [upd_ne (ne_of_none z hn)]; exact z)
  have IX : Inv X pins σ (upd H' D (.dT kvs)) s' := I.call' (I'.os.trans hos) un hok I'.bare fun b hb => ⟨(f2 b hb).2.2.2.1, (f2 b hb).2.1, (f2 b hb).2.2.2.2.1, (f2 b hb).2.2.2.2.2⟩
  refine ⟨IX.pins_of fun p hp => ?_, fpc⟩
  rcases List.mem_append.mp hp with hp | hp
  · exact IX.pin p (List.mem_append_right _ hp)
  · rw [List.mem_singleton.mp hp]
    exact ⟨ho, HC, fpc.2.1, fpc.2.2.1, hd⟩
theorem comp_runE {C D : Addr} {s₀ : Shared} {tg : Expr} {pos : Pos} {kx vx iter : Expr} {ifs : List Expr} {g : TG} {tt : TT} {tk tv : TE} {Q : VK} {RR : Value → Addr → Result → Shared → Prop} {W : Nat → Nat → List (List Key × V) → Hp → L2.St → Hp → Prop}
    (hu : X.A.units + 1 < cLine) (I : Inv X pins σ H2 s₂) (hcalm : X.calm = true) (T : Turn X.prog X.w X.K tg J fp it tn) (f2 : ∀ b ∈ fp, FpOk X pins H2 b) (hfp : ∀ b ∈ fp, b < s₂.heap.objs.size)
    (hs₀ : ∀ b o, s₂.heap.get? b = some o → s₀.heap.get? b = some o) (hos : s₀.os = s₂.os) (hD : s₂.heap.objs.size ≤ D) (hC : s₂.heap.objs.size ≤ C) (hDC : D ≠ C)
    (hcl1 : ∀ x c, cl.lookup x = some c → X.env.cells.lookup x = some c)
    (hg : PG (cxC X N' scope cl C D fp s₀ H2) tg g) (ht : PIfs (cxC X N' scope cl C D fp s₀ H2) ifs tt) (hk : PE (cxC X N' scope cl C D fp s₀ H2) kx tk) (he : PE (cxC X N' scope cl C D fp s₀ H2) vx tv)
    (turn : ∀ i m kvs Hb σ' H', W i m kvs Hb σ' H' →
      (J.stop i H' ∧ (∀ b xs, Hb b = some (.tup xs) → H' b = some (.tup xs)) ∧ ∀ l, H' l = none → Q (.ref l) (upd H' l (.dT kvs))) ∨
      (J.go i H' ∧ ∃ Nn : List (List Key × V) → Hp → L2.St → Hp → Prop, (∀ zs Hc σ2 H2, Nn zs Hc σ2 H2 → ∃ m', m' < m ∧ W (i + 1) m' zs Hc σ2 H2) ∧
        ∀ x H3, J.yld i H' x H3 → g x σ' H3 fun σ2 H3 => tt σ2 H3 fun b H4 => if b = true then tk σ2 H4 fun y H5 => tv σ2 H5 fun v H6 => kvs.length < sizeLine ∧ ∃ b ks, y = .ref b ∧ H6 b = some (.tup (ks.map kV)) ∧ (∀ c xs, Hb c = some (.tup xs) → H6 c = some (.tup xs)) ∧ Nn (putK kvs ks v) H6 σ2 H6 else Nn kvs Hb σ2 H4))
    (hRR : ∀ (D C : Addr) (oC : Obj) (m : Str → Option Value) (s' : Shared) (Hf : Hp), Inv X (pins ++ [(C, oC)]) σ Hf s' → s'.heap.Ns C m → FpOk X pins Hf C → Q (.ref D) Hf → RR (.ref D) C (.ok .next) s')
    (n : Nat) (s : Shared) (h : ∃ i kvs Hb o σ' H', Inv (cxC X N' scope cl C D fp s₀ H2) pins σ' H' s ∧ tn i s.heap ∧ (∀ b ∈ fp, H' b = none) ∧ H' D = none ∧
      DRaw X.prog X.w Hb s.heap D o kvs ∧ W i n kvs Hb σ' H') :
    codeAny (model X.prog X.w) X.A (.compLoop (.DictComp kx vx [⟨tg, iter, ifs, 0⟩] scope pos) 0 (.ref it) (.ref D) (compEnvC scope cl C X.env)) (RR (.ref D) C) s := by
  have frsz : ∀ b ∈ frs X.stack, b < s₂.heap.objs.size := fun b hb => by
    rcases List.mem_cons.mp (I.stkSub b hb) with z | z
    · rw [z]; exact I.lt
    · exact Nat.lt_of_not_le fun q => I.nofs q z
  have cells : ∀ x c, cl.lookup x = some c → c < s₂.heap.objs.size := fun x c e => let ⟨v, q⟩ := I.cell x c (hcl1 x c e); q.lt
  have pinsz : ∀ p ∈ X.pn ++ pins, p.1 < s₂.heap.objs.size := fun p hp => Heap.lt_size (I.pin p hp).1
  refine comp_loopD (fun n s => ∃ i kvs Hb o σ' H', Inv (cxC X N' scope cl C D fp s₀ H2) pins σ' H' s ∧ tn i s.heap ∧ (∀ b ∈ fp, H' b = none) ∧ H' D = none ∧
      DRaw X.prog X.w Hb s.heap D o kvs ∧ W i n kvs Hb σ' H') ?_ n h
  rintro n s ⟨i, kvs, Hb, o, σ', H', I', st', fr, hn, rv, w'⟩
  have hy : s.heap.get? D = some o := let ⟨_, _, _, _, _, _, e, _⟩ := rv; e
  have pD : Inv (cxC X N' scope cl C D fp s₀ H2) (pins ++ [(D, o)]) σ' H' s := I'.pins_of fun p hp => by
    rcases List.mem_append.mp hp with hp | hp
    · exact I'.pin p (List.mem_append_right _ hp)
    · rw [List.mem_singleton.mp hp]
      exact ⟨hy, hn, hDC, fun z => absurd (Nat.lt_of_lt_of_le (frsz _ z) hD) (Nat.lt_irrefl _), rv.nocell⟩
  have fpok : ∀ {H'' : Hp}, (∀ b ∈ fp, H'' b = none) → ∀ b ∈ fp, FpOk (cxC X N' scope cl C D fp s₀ H2) (pins ++ [(D, o)]) H'' b := fun hz b hb => by
    refine ⟨hz b hb, Nat.ne_of_lt (Nat.lt_of_lt_of_le (hfp b hb) hC), fun z => ?_, .inl (List.mem_cons_of_mem _ hb), fun x c e => (f2 b hb).2.2.2.2.1 x c (hcl1 x c e), fun p hp => ?_⟩
    · rcases List.mem_cons.mp (I.stkSub b z) with z | z
      · exact (f2 b hb).2.1 z
      · exact (f2 b hb).2.2.1 z
    · rcases List.mem_append.mp hp with hp | hp
      · exact (f2 b hb).2.2.2.2.2 p (List.mem_append_left _ hp)
      · rcases List.mem_append.mp hp with hp | hp
        · exact (f2 b hb).2.2.2.2.2 p (List.mem_append_right _ hp)
        · rw [List.mem_singleton.mp hp]
          exact Nat.ne_of_gt (Nat.lt_of_lt_of_le (hfp b hb) hD)
  rcases turn i n kvs Hb σ' H' w' with ⟨stop, hbt, q⟩ | ⟨go, Nn, hN, step⟩
  · refine thn (T.done (cxC X N' scope cl C D fp s₀ H2) rfl rfl rfl hcalm i _ s σ' H' (fun _ _ => False) pD (fpok fr) st' stop) fun r s1 ⟨hr, I1⟩ => ?_
    subst hr
    have hy1 := (I1.pin (D, o) (by simp)).1
    obtain ⟨m, hm, _⟩ := I1.loc
    obtain ⟨oC, es, ep, hoC, hdC, _⟩ := id hm
    obtain ⟨IX, fpc⟩ := comp_finE I hs₀ hos hD hC hDC f2 I1.unpinned hn hbt (rv.at hy1) hoC (by intro v z; rw [hdC] at z; cases z)
    exact hRR D C oC m s1 _ IX hm fpc (q D hn)
  · refine thn (T.item (cxC X N' scope cl C D fp s₀ H2) rfl rfl rfl hcalm i _ s σ' H' (fun _ _ => False) pD (fpok fr) st' go) fun r s1 ⟨u, hr, h4⟩ => ?_
    subst hr
    refine thn h4 fun _ s2 ⟨x5, H5, I5, r5, y5, st5, fr5⟩ => ?_
    have I5' := I5.pinned (fpok fr5) (T.obj _ _ st5)
    refine thn (hg _ s2 σ' H5 x5 u _ I5' r5 (step x5 H5 y5)) fun _ s3 ⟨σ6, H6, I6, q6⟩ => ?_
    refine thn (ht _ s3 σ6 H6 _ I6 q6) fun ok s4 ⟨H7, I7, q7⟩ => ?_
    have stay : ∀ {σ7 : L2.St} {H7 : Hp} {s7 : Shared}, Inv (cxC X N' scope cl C D fp s₀ H2) (pins ++ [(D, o)] ++ pinsAt fp s2.heap) σ7 H7 s7 →
        (∀ b ∈ fp, ∀ o, s2.heap.get? b = some o → s7.heap.get? b = some o) ∧ (∀ b ∈ fp, H7 b = none) ∧ H7 D = none ∧ s7.heap.get? D = some o := fun {σ7 H7 s7} I7 => by
      have d := I7.pin (D, o) (by simp)
      refine ⟨fun b hb o e => (I7.pin (b, o) (List.mem_append_right _ (List.mem_append_right _ (mem_pinsAt hb e)))).1, fun b hb => ?_, d.2.1, d.1⟩
      obtain ⟨o, e, _⟩ := T.obj _ _ st5 b hb
      exact (I7.pin (b, o) (List.mem_append_right _ (List.mem_append_right _ (mem_pinsAt hb e)))).2.1
    cases ok with
    | false =>
      rw [if_neg (by decide)] at q7 ⊢
      obtain ⟨k1, k2, k3, k4⟩ := stay I7
      obtain ⟨m', hm, w7⟩ := hN kvs Hb σ6 H7 q7
      exact ⟨m', hm, i + 1, kvs, Hb, o, σ6, H7, I7.unpinned.unpinned, T.keep _ _ _ st5 k1, k2, k3, rv.at k4, w7⟩
    | true =>
      rw [if_pos rfl] at q7 ⊢
      refine thn (hk _ s4 σ6 H7 _ I7 q7) fun kv s5 ⟨y, H8, I8, ry, q8⟩ => ?_
      refine thn (he _ s5 σ6 H8 _ I8 q8) fun vv s6 ⟨v, H9, I9, r9, hl9, b, ks, ey, eb, tp, n9⟩ => ?_
      subst ey
      cases (show kv = Value.ref b from ry)
      obtain ⟨k1, k2, k3, k4⟩ := stay I9
      obtain ⟨z, hd, xs, rel, es, ep, h1, h2, h3, h4', h5⟩ := rv.at k4
      have dd : s6.heap.DictOfH (tupleKind (mixKind X.prog X.w)) D xs := by
        refine ⟨o, es, ep, h1, h2, h3, h4', fun x hx => ?_, h5⟩
        have all : ∀ {l : List (List Key × V)} {m : List (List Key × Addr × Value)}, KT Hb l m → ∀ x ∈ m, (tupleKind (mixKind X.prog X.w)).is s6.heap x.1 x.2.1 := by
          intro l m q
          induction q with
          | nil => intro x hx; exact nomatch hx
          | @cons p q ps qs hq t ih =>
            intro x hx
            rcases List.mem_cons.mp hx with e | hx
            · subst e
              exact key_of I9.hok (by rw [← hq.1]; exact tp _ _ hq.2.1)
            · exact ih x hx
        exact all rel x hx
      have xl : xs.length ≤ sizeLine := by rw [← Paired.length rel]; exact z
      refine wpAny_dictSet_heap (hsz := xl) (show (tupleKind (mixKind X.prog X.w)).room X.A from Nat.lt_of_succ_lt hu) (key_of I9.hok eb) dd fun h' dd' sb => ?_
      obtain ⟨o', es', ep', hq1, hq2, hq3, hq4, _, hq5⟩ := dd'
      obtain ⟨m', hm, w9⟩ := hN _ _ σ6 H9 n9
      have pl := length_putK kvs ks v
      refine ⟨m', hm, i + 1, putK kvs ks v, H9, o', σ6, H9, ?_, T.keep _ _ _ (T.keep _ _ _ st5 k1) fun b hb o e => sb.extBut b o (Nat.ne_of_lt (Nat.lt_of_lt_of_le (hfp b hb) hD)) e, k2, k3, ⟨by omega, hd, _, (KT.keeps rel tp).put ks eb r9, es', ep', hq1, hq2, hq3, hq4, hq5⟩, w9⟩
      exact (I9.unpinned.unpinned).turned (it := D) (t' := _) (h' := h') (fun b o hb e => sb.extBut b o hb e) k3 hDC (.inl (by simp)) (fun x c e => Nat.ne_of_lt (Nat.lt_of_lt_of_le (cells x c e) hD)) (fun p hp => Nat.ne_of_lt (Nat.lt_of_lt_of_le (pinsz p hp) hD))
theorem comp_blockE {tg : Expr} {pos : Pos} {kx vx iter : Expr} {ifs : List Expr} {g : TG} {tt : TT} {tk tv : TE} {E : Value → Shared → Prop} {Q : VK} {RR : Value → Addr → Result → Shared → Prop}
    (hu : X.A.units + 1 < cLine) (I : Inv X pins σ H2 s₂) (hcalm : X.calm = true) (T : Turn X.prog X.w X.K tg J fp it tn) (st : tn 0 s₂.heap) (f2 : ∀ b ∈ fp, FpOk X pins H2 b)
    (S : CSc X scope N' sub) (hcl1 : ∀ x c, cl.lookup x = some c → X.env.cells.lookup x = some c) (hcl2 : ∀ y ∈ scope.names, y.2 = .free → ∃ c, cl.lookup y.1 = some c)
    (hg : ∀ C D fp s H, PG (cxC X N' scope cl C D fp s H) tg g) (ht : ∀ C D fp s H, PIfs (cxC X N' scope cl C D fp s H) ifs tt) (hk : ∀ C D fp s H, PE (cxC X N' scope cl C D fp s H) kx tk) (he : ∀ C D fp s H, PE (cxC X N' scope cl C D fp s H) vx tv)
    (hW : CompWE J (capt sub σ) H2 g tt tk tv Q)
    (hRR : ∀ (D C : Addr) (oC : Obj) (m : Str → Option Value) (s' : Shared) (Hf : Hp), Inv X (pins ++ [(C, oC)]) σ Hf s' → s'.heap.Ns C m → FpOk X pins Hf C → Q (.ref D) Hf → RR (.ref D) C (.ok .next) s') :
    wpAny (model X.prog X.w) X.A newDict (fun acc s₃ => wpAny (model X.prog X.w) X.A (newFunctionEnv scope X.env.globals cl [] X.env.qual none .none (some X.env)) (fun cenv s₄ =>
      codeAny (model X.prog X.w) X.A (.compStart (.DictComp kx vx [⟨tg, iter, ifs, 0⟩] scope pos) 0 (.ref it) acc { cenv with scope := relabel scope X.env }) (RR acc cenv.locals) s₄) E s₃) E s₂ := by
  obtain ⟨W, ⟨m0, w0⟩, turn⟩ := hW
  refine wpAny_newObj_type (wpAny_newFunctionEnv S.nocell (by intro y hy; simp at hy) (fun h₁ hns₁ hsb₁ => ?_) S.kind)
  dsimp only at hns₁ hsb₁ ⊢
  have hC : (s₂.heap.push { cls := .type "dict", dict := none, data := .dict #[] }).objs.size = s₂.heap.objs.size + 1 := Heap.size_push ..
  rw [hC] at hns₁ hsb₁ ⊢
  have hk1 : ∀ b o, (s₂.heap.push { cls := .type "dict", dict := none, data := .dict #[] }).get? b = some o → h₁.get? b = some o := fun b o e =>
    hsb₁.extBut b o (by have := Heap.lt_size e; rw [hC] at this; exact Nat.ne_of_lt this) (Heap.get?_push_of_some _ e)
  have hfp : ∀ b ∈ fp, b < s₂.heap.objs.size := fun b hb => by
    obtain ⟨o, e, _⟩ := T.obj _ _ st b hb
    exact Heap.lt_size e
  have I0 := comp_start (tk := s₂.toks + ([] : List (Str × Value)).length) I S hcl1 hcl2 f2 hfp hns₁ hk1
  have hD0 : h₁.get? s₂.heap.objs.size = some { cls := .type "dict", data := .dict #[] } := hk1 _ _ (Heap.get?_push_size _ rfl)
  obtain ⟨_, hd0, xs0, rel0, o0, es0, ep0, q1, q2, q3, q4, q5⟩ := (dt_empty (P := X.prog) (w := X.w) (H := H2) s₂.heap I.big)
  rw [Heap.get?_push_size _ rfl] at q1
  cases q1
  have loop : codeAny (model X.prog X.w) X.A (.compLoop (.DictComp kx vx [⟨tg, iter, ifs, 0⟩] scope pos) 0 (.ref it) (.ref s₂.heap.objs.size) (compEnvC scope cl (s₂.heap.objs.size + 1) X.env)) (RR (.ref s₂.heap.objs.size) (s₂.heap.objs.size + 1)) { s₂ with heap := h₁, toks := s₂.toks + ([] : List (Str × Value)).length } :=
    comp_runE (s₀ := { s₂ with heap := s₂.heap.push { cls := .type "dict", dict := none, data := .dict #[] } }) (C := s₂.heap.objs.size + 1) (D := s₂.heap.objs.size) hu I hcalm T f2 hfp (fun b o e => Heap.get?_push_of_some _ e) rfl (Nat.le_refl _) (Nat.le_succ _) (Nat.ne_of_lt (Nat.lt_succ_self _)) hcl1 (hg _ _ _ _ _) (ht _ _ _ _ _) (hk _ _ _ _ _) (he _ _ _ _ _) turn hRR m0 _
      ⟨0, [], H2, _, capt sub σ, H2, I0, T.keep _ _ _ st fun b hb o e => hk1 b o (Heap.get?_push_of_some _ e), fun b hb => (f2 b hb).1, I.hok.fresh (Nat.le_refl _), ⟨Nat.zero_le _, hd0, [], .nil, es0, ep0, hD0, q2, q3, by cases rel0; exact q4, List.nodup_nil⟩, w0⟩
  exact codeAny_compStart_dict loop (T.self _ _ _ _ _ (T.keep _ _ _ st fun b hb o e => hk1 b o (Heap.get?_push_of_some _ e)) loop)
end
section
variable {X : Cx} {scope : Scope} {N' : List Str} {sub : List (Option Nat)} {tg : Expr} {pos : Pos} {kx vx iter : Expr} {ifs : List Expr} {wi : TI} {g : TG} {tt : TT} {tk tv : TE}
theorem pe_compE (hu : X.A.units + 1 < cLine) (S : CSc X scope N' sub) (hcalm : X.calm = true) (hi : PI X tg iter wi)
    (hg : ∀ cl C D fp s H, PG (cxC X N' scope cl C D fp s H) tg g) (ht : ∀ cl C D fp s H, PIfs (cxC X N' scope cl C D fp s H) ifs tt) (hk : ∀ cl C D fp s H, PE (cxC X N' scope cl C D fp s H) kx tk) (he : ∀ cl C D fp s H, PE (cxC X N' scope cl C D fp s H) vx tv)
    (hs : ∀ x, foldedSetIterable iter X.env x = pure x := by intro _; rfl) : PE X (.DictComp kx vx [⟨tg, iter, ifs, 0⟩] scope pos) (tCompE wi sub g tt tk tv) := by
  intro pins s σ H Q I h
  obtain ⟨cl, hclos, hcl1, hcl2⟩ := S.clos I
  rw [arm_eval_DictComp]
  refine wpAny_comprehension_free (use := none) rfl hs hclos S.kind S.names (thn (hi pins s σ H _ I h) fun v s1 h1 => thn h1 fun itv s2 h2 => ?_)
  obtain ⟨it, fp, tn, J, H2, e, I2, T, st2, f2, hW⟩ := h2
  subst e
  refine comp_blockE (RR := fun acc C => compPost (model X.prog X.w) X.A X.xe none (EP X pins σ Q) acc C) hu I2 hcalm T st2 f2 S hcl1 hcl2 (hg cl) (ht cl) (hk cl) (he cl) hW ?_
  intro D C oC m s' Hf IX hm fpc q
  refine ⟨m, hm, fun h' sb => ⟨.ref D, Hf, ?_, rfl, q⟩⟩
  exact (IX.unpinned).turned (it := C) (t' := s'.toks) (h' := h') (fun b o hb e => sb.extBut b o hb e) fpc.1 fpc.2.1 fpc.2.2.2.1 fpc.2.2.2.2.1 fpc.2.2.2.2.2
end
end L3

namespace L3
open PySem PySem.Spec PyProof.Rows L2 PySem.W
def Itd (a : Addr) (o : Obj) (kvs : List (List Key × V)) : It :=
  ⟨fun i H => i < kvs.length ∧ H a = some (.frz o (.dT kvs)), fun i H x H' => H' = H ∧ ∃ p b, kvs[i]? = some p ∧ x = .ref b ∧ H b = some (.tup (p.1.map kV)), fun i H => i = kvs.length ∧ H a = some (.frz o (.dT kvs))⟩
theorem ent_of {P : Program} {w : World} {H : Hp} {h : Heap} {a : Addr} {o : Obj} {es : Array DictEntry} {ep : Nat} {kvs : List (List Key × V)} (x : ObjOk P w H h a (.frz o (.dT kvs))) (hd : o.data = .dict es ep) :
    ∃ xs : List (List Key × Addr × Value), KT H kvs xs ∧ h.get? a = some o ∧ es.toList = xs.map (entryOfKey (tupleKind (mixKind P w))) := by
  obtain ⟨g, z, lo, xs, rel, o', es', ep', g', hx, hd', he, nd⟩ := x
  rw [g] at g'
  cases g'
  rw [hd] at hd'
  injection hd' with e1 e2
  subst e1
  exact ⟨xs, rel, g, he⟩
theorem turn_dT {P : Program} {w : World} {K : PySem.W.Frag} {tg : Expr} (a it : Addr) (o : Obj) (es : Array DictEntry) (ep : Nat) (kvs : List (List Key × V)) (hx : o.ExactDict) (hd : o.data = .dict es ep) (hes : es.size = kvs.length) :
    Turn P w K tg (Itd a o kvs) [it] it (fun i h => h.IsKeyIter it a i es.size ep) where
  mem := by simp
  obj := fun i h st b hb => by
    have e : b = it := by simpa using hb
    subst e
    obtain ⟨o, e, c, d⟩ := st
    exact ⟨o, e, fun v z => by rw [d] at z; cases z⟩
  keep := fun i h h' st k => st.at fun o e => k it (by simp) o e
  item := by
    intro X hP hw hK hc i pins s σ H E I hf st hg
    subst hP hw hK
    obtain ⟨hi, hH⟩ := hg
    obtain ⟨xs, rel, g, he⟩ := ent_of (I.hok a _ hH) hd
    have hl : kvs.length = xs.length := Paired.length rel
    obtain ⟨f0, f1, f2, f3, f4, f5⟩ := hf it (by simp)
    refine ent_next st ⟨o, g, hx, hd⟩ (by omega) fun h' st' sb => ?_
    have I1 : Inv X pins σ H { s with heap := h' } := I.turned (t' := s.toks) (fun b o hb e => (sb.2 b hb).trans e) f0 f1 f3 f4 f5
    obtain ⟨oi, e, c, d⟩ := id st'
    have hy : i < xs.length := by omega
    have ee := entry_at he i
    rw [Array.getElem?_eq_getElem (by omega), List.getElem?_eq_getElem hy, Option.map_some] at ee
    have ek : es[i].key = Value.ref xs[i].2.1 := by rw [Option.some.inj ee]; rfl
    obtain ⟨p, hp, hr⟩ : ∃ p, kvs[i]? = some p ∧ H xs[i].2.1 = some (.tup (p.1.map kV)) := by
      have hz : (xs.map fun q => V.ref q.2.1)[i]? = some (V.ref xs[i].2.1) := by rw [List.getElem?_map, List.getElem?_eq_getElem hy]; rfl
      have hk := keys_all rel
      have : ∀ {zs : List V} {ps : List (List Key × V)} {j : Nat} {b : Addr}, AllR (KeyAt H) zs ps → zs[j]? = some (V.ref b) → ∃ p, ps[j]? = some p ∧ H b = some (.tup (p.1.map kV)) := by
        intro zs
        induction zs with
        | nil => intro ps j b _ h; cases h
        | cons z zs ih =>
          intro ps j b hA h
          cases ps with
          | nil => exact hA.elim
          | cons p ps =>
            cases j with
            | zero =>
              obtain ⟨b', e', hb'⟩ := hA.1
              have : z = V.ref b := Option.some.inj h
              rw [this] at e'
              cases e'
              exact ⟨p, rfl, hb'⟩
            | succ j =>
              obtain ⟨p', h1, h2⟩ := ih (ps := ps) (j := j) hA.2 (show zs[j]? = some (V.ref b) from h)
              exact ⟨p', h1, h2⟩
      exact this hk hz
    exact ⟨_, rfl, go_of (s := { s with heap := h' }) e c d (by decide) ⟨V.ref xs[i].2.1, H, I1, ek, ⟨rfl, p, _, hp, rfl, hr⟩, st', fun b hb => (hf b hb).1⟩⟩
  done := by
    intro X hP hw hK hc i pins s σ H E I hf st hg
    subst hP hw hK
    obtain ⟨hi, hH⟩ := hg
    obtain ⟨xs, rel, g, he⟩ := ent_of (I.hok a _ hH) hd
    obtain ⟨f0, f1, f2, f3, f4, f5⟩ := hf it (by simp)
    have ei : i = es.size := by omega
    subst ei
    exact ent_end (I.ok.hd hc) st ⟨o, g, hx, hd⟩ fun h' eb => ⟨rfl, I.turned (t' := s.toks) (fun b o hb e => eb b o hb e) f0 f1 f3 f4 f5⟩
  self := fun _ _ _ _ _ st h => wpAny_pyIter_keyiter st h
section
variable {X : Cx} {tg : Expr}
theorem Grow.frzR {m : List Addr} {H : Hp} {d : Addr} {kvs : List (List Key × V)} {o : Obj} (h : H d = some (.dT kvs)) (hm : d ∈ m) : Grow m H (upd H d (.frz o (.dT kvs))) :=
  ⟨fun b u hb q => by rw [upd_ne (show b ≠ d from fun z => hb (by rw [z]; exact hm))]; exact q, fun b zs q => by rw [upd_ne (fun z => by subst z; rw [h] at q; cases q)]; exact q, fun b u v q => by rw [upd_ne (fun z => by subst z; rw [h] at q; cases q)]; exact q⟩
def iDT (tl : TE) : TI := fun σ H R => tl σ H fun x H1 => ∃ a kvs, x = .ref a ∧ Rd H1 a (.dT kvs) ∧ ∀ o H', H' a = some (.frz o (.dT kvs)) → Grow [a] H1 H' → (∀ b, b ≠ a → H' b = H1 b) → R (Itd a o kvs) H'
theorem pi_dT {l : Expr} {tl : TE} (hl : PE X l tl) : PI X tg l (iDT tl) := by
  intro pins s σ H R I h
  refine thn (hl pins s σ H _ I h) fun v s1 ⟨x, H1, I1, r1, q1⟩ => ?_
  obtain ⟨a, kvs, e, hrd, q⟩ := q1
  subst e
  cases r1
  have key : ∀ (H2 : Hp) (o : Obj), Inv X pins σ H2 s1 → H2 a = some (.frz o (.dT kvs)) → R (Itd a o kvs) H2 → wpAny (model X.prog X.w) X.A (pyIter (.ref a)) (PIE X pins σ tg R) X.xe s1 := by
    intro H2 o I2 hH hR
    obtain ⟨g, z, lo, xs, rel, o', es, ep, g', hx, hd, he, nd⟩ := (show ObjOk X.prog X.w H2 s1.heap a (.frz o (.dT kvs)) from I2.hok a _ hH)
    rw [g] at g'
    cases g'
    have hl : kvs.length = xs.length := Paired.length rel
    have hes : es.size = xs.length := size_of_entries he
    refine ent_iter lo ⟨o, g, hx, hd⟩ ?_
    refine ⟨s1.heap.objs.size, [s1.heap.objs.size], _, _, H2, rfl, I2.kept (t' := s1.toks) fun b o e => Heap.get?_push_of_some _ e, turn_dT a _ o es ep kvs hx hd (by omega), ⟨_, Heap.get?_push_size _ rfl, rfl, rfl⟩, fun b hb => ?_, hR⟩
    have e : b = s1.heap.objs.size := by simpa using hb
    subst e
    exact I2.fpOk (Nat.le_refl _) (I2.hok.fresh (Nat.le_refl _))
  rcases hrd with ha | ⟨o, ha⟩
  · obtain ⟨z, lo, xs, rel, o, es, ep, g, hx, hd, he, nd⟩ := (show ObjOk X.prog X.w H1 s1.heap a (.dT kvs) from I1.hok a _ ha)
    have I2 : Inv X pins σ (upd H1 a (.frz o (.dT kvs))) { s1 with heap := s1.heap, toks := s1.toks } := d_write I1 (by rw [ha]; trivial) (Heap.SameBut.refl ..) ⟨o, g⟩ ⟨g, z, lo, xs, ?_, o, es, ep, g, hx, hd, he, nd⟩
    · exact key _ o I2 upd_same (q o _ upd_same (Grow.frzR ha (by simp)) fun b hb => upd_ne hb)
    · refine KT.keeps rel fun b ys e => ?_
      have : b ≠ a := fun z => by rw [z, ha] at e; cases e
      rw [upd_ne this]; exact e
  · exact key _ o I1 ha (q o _ ha (Grow.refl _ _) fun _ _ => rfl)
end
theorem for_dT {a : Addr} {o : Obj} {kvs : List (List Key × V)} {g : TG} {tb : TS} {D : Ends} {σ : L2.St} {H : Hp} (Pv : Nat → L2.St → Hp → Prop) (h0 : Pv 0 σ H) (hl : ∀ i σ H, i ≤ kvs.length → Pv i σ H → H a = some (.frz o (.dT kvs)))
    (hs : ∀ i p b σ H, kvs[i]? = some p → H b = some (.tup (p.1.map kV)) → Pv i σ H → g (.ref b) σ H fun σ2 H2 => tb { D with nx := Pv (i + 1), ct := Pv (i + 1), bk := D.nx } σ2 H2) (hd : ∀ σ H, Pv kvs.length σ H → D.nx σ H) :
    ∃ W : Nat → Nat → L2.St → Hp → Prop, (∃ m, W 0 m σ H) ∧ ∀ i m σ H, W i m σ H →
      ((Itd a o kvs).stop i H ∧ D.nx σ H) ∨ ((Itd a o kvs).go i H ∧ ∃ N : L2.St → Hp → Prop, (∀ σ' H', N σ' H' → ∃ m', m' < m ∧ W (i + 1) m' σ' H') ∧ ∀ x H', (Itd a o kvs).yld i H x H' → g x σ H' fun σ2 H2 => tb { D with nx := N, ct := N, bk := D.nx } σ2 H2) := by
  refine ⟨fun i m σ H => m = kvs.length - i ∧ i ≤ kvs.length ∧ Pv i σ H, ⟨kvs.length, by simp, Nat.zero_le _, h0⟩, ?_⟩
  rintro i m σ H ⟨rfl, hi, p⟩
  have q := hl i σ H hi p
  by_cases hlt : i < kvs.length
  · refine .inr ⟨⟨hlt, q⟩, Pv (i + 1), fun σ' H' p' => ⟨kvs.length - (i + 1), by omega, rfl, hlt, p'⟩, fun x H' y => ?_⟩
    obtain ⟨rfl, pk, b, hp, rfl, hb⟩ := y
    exact hs i pk b σ _ hp hb p
  · have e : i = kvs.length := by omega
    exact .inl ⟨⟨e, q⟩, hd σ H (e ▸ p)⟩
end L3

namespace L3
open PySem PySem.Spec PyProof.Rows L2
def x0R (k : Nat) (rows : List (List Int)) (s l : Nat) : Nat := wfN k s l (fstI rows s (nN k s l))
def x1R (k : Nat) (rows : List (List Int)) (s l : Nat) : Nat := wfN k s l (1 - fstI rows s (nN k s l))
def outR (k s l b : Nat) : Nat := wfN k s l (figI k s ((b % 2 ^ k : Nat) : Int))
theorem wf_eq {k s l m : Nat} {w : Int} (k4 : k ≤ 4) (s1 : 1 ≤ s) (sk : s ≤ k) (hl : l < 2 ^ k) (hm : m < 2 ^ k) (hw : w = 0 ∨ w = 1) (h : ∀ t : Nat, 1 ≤ t → t ≤ k → t ≠ s → figI k t l = figI k t m) : wfN k s l w = wfN k s m w := by
  have A := wfF k4 s1 sk hl hw
  have B := wfF k4 s1 sk hm hw
  refine fig_inj k4 A.lt B.lt fun t t1 tk => ?_
  by_cases c : t = s
  · rw [c, A.at_, B.at_]
  · rw [A.off t tk c, B.off t tk c, h t t1 tk c]
theorem nN_eq {k s l m : Nat} (s1 : 1 ≤ s) (sk : s ≤ k) (h : ∀ t : Nat, 1 ≤ t → t ≤ k → t ≠ s → figI k t l = figI k t m) : nN k s l = nN k s m := by
  rw [mix_eq (e := m) (x := m) s1 sk (fun u u1 u2 => h u u1 (by omega) (by omega)) fun u u1 u2 => h u (by omega) u2 (by omega)]
  exact (mix_eq (e := m) (x := m) s1 sk (fun u _ _ => rfl) fun u _ _ => rfl).symm
section
variable {k : Nat} {rows : List (List Int)}
theorem x_same {s l m : Nat} (k4 : k ≤ 4) (hs : SetOk k rows) (s1 : 1 ≤ s) (sk : s ≤ k) (hl : l < 2 ^ k) (hm : m < 2 ^ k) (h : ∀ t : Nat, 1 ≤ t → t ≤ k → t ≠ s → figI k t l = figI k t m) :
    x0R k rows s l = x0R k rows s m ∧ x1R k rows s l = x1R k rows s m := by
  have e := nN_eq s1 sk h
  have f := fst01 k4 hs s1 sk hm
  unfold x0R x1R
  rw [e]
  exact ⟨wf_eq k4 s1 sk hl hm f h, wf_eq k4 s1 sk hl hm (by omega) h⟩
structure XF (k : Nat) (rows : List (List Int)) (s l : Nat) : Prop where
  lt0 : x0R k rows s l < 2 ^ k
  lt1 : x1R k rows s l < 2 ^ k
  ne : x0R k rows s l ≠ x1R k rows s l
  or : l = x0R k rows s l ∨ l = x1R k rows s l
  off0 : ∀ t : Nat, t ≤ k → t ≠ s → figI k t (x0R k rows s l) = figI k t l
  off1 : ∀ t : Nat, t ≤ k → t ≠ s → figI k t (x1R k rows s l) = figI k t l
theorem xF {s l : Nat} (k4 : k ≤ 4) (hs : SetOk k rows) (s1 : 1 ≤ s) (sk : s ≤ k) (hl : l < 2 ^ k) : XF k rows s l := by
  have f := fst01 k4 hs s1 sk hl
  have A := wfF k4 s1 sk hl f
  have B := wfF k4 s1 sk hl (show 1 - fstI rows s (nN k s l) = 0 ∨ 1 - fstI rows s (nN k s l) = 1 by omega)
  have g := fig01 (l := l) k4 sk hl
  refine ⟨A.lt, B.lt, fun e => ?_, ?_, A.off, B.off⟩
  · have e' : wfN k s l (fstI rows s (nN k s l)) = wfN k s l (1 - fstI rows s (nN k s l)) := e
    have a := A.at_
    rw [e', B.at_] at a
    omega
  · by_cases c : figI k s l = fstI rows s (nN k s l)
    · refine .inl (fig_inj k4 hl A.lt fun t t1 tk => ?_)
      by_cases d : t = s
      · rw [d]; exact c.trans A.at_.symm
      · exact (A.off t tk d).symm
    · refine .inr (fig_inj k4 hl B.lt fun t t1 tk => ?_)
      by_cases d : t = s
      · rw [d, show figI k s (x1R k rows s l) = 1 - fstI rows s (nN k s l) from B.at_]; omega
      · exact (B.off t tk d).symm
theorem side_lt {b : Nat} : b % 2 ^ k < 2 ^ k := Nat.mod_lt _ (Nat.two_pow_pos k)
theorem outF {s l b : Nat} (k4 : k ≤ 4) (s1 : 1 ≤ s) (sk : s ≤ k) (hl : l < 2 ^ k) : WfF k s l (figI k s ((b % 2 ^ k : Nat) : Int)) := wfF k4 s1 sk hl (fig01 k4 sk side_lt)
theorem out_x {s l b : Nat} (k4 : k ≤ 4) (hs : SetOk k rows) (s1 : 1 ≤ s) (sk : s ≤ k) (hl : l < 2 ^ k) : x0R k rows s (outR k s l b) = x0R k rows s l ∧ x1R k rows s (outR k s l b) = x1R k rows s l := by
  have W := outF (b := b) k4 s1 sk hl
  exact x_same k4 hs s1 sk W.lt hl fun t _ tk h => W.off t tk h
def joinO : Option Deed → Option Deed → Option Deed
  | some d, some e => some (joinD d e)
  | some d, none => some d
  | none, o => o
def lvR (k : Nat) (rows : List (List Int)) (ks : List Ask) : Nat → Nat → Nat → Option Deed
  | 0, l, b => (ks.find? fun a => decide (a.hand = (l : Int) ∧ a.box = (b : Int))).map (·.deed)
  | s + 1, l, b => if figI k ((s + 1 : Nat) : Int) l = figI k ((s + 1 : Nat) : Int) ((b % 2 ^ k : Nat) : Int) then joinO (lvR k rows ks s (x0R k rows (s + 1) l) b) (lvR k rows ks s (x1R k rows (s + 1) l) b) else none
def arrR (k : Nat) (rows : List (List Int)) (ks : List Ask) : Nat → Nat → Nat → List Ask
  | 0, l, b => ks.filter fun a => decide (a.hand = (l : Int) ∧ a.box = (b : Int))
  | s + 1, l, b => if figI k ((s + 1 : Nat) : Int) l = figI k ((s + 1 : Nat) : Int) ((b % 2 ^ k : Nat) : Int) then arrR k rows ks s (x0R k rows (s + 1) l) b ++ arrR k rows ks s (x1R k rows (s + 1) l) b else []
def runR (v : Int) (as : List Ask) : Int := as.foldl (fun v a => a.deed.mk' v) v
theorem runR_append {v : Int} {as bs : List Ask} : runR v (as ++ bs) = runR (runR v as) bs := List.foldl_append
structure RndOk (k m : Nat) (ks : List Ask) : Prop where
  nd : (ks.map (·.hand)).Nodup
  hand : ∀ a ∈ ks, 0 ≤ a.hand ∧ a.hand < 2 ^ k
  box : ∀ a ∈ ks, 0 ≤ a.box ∧ a.box < m
  ok : ∀ a ∈ ks, a.deed.Ok
theorem one_of {ks : List Ask} {l b : Int} (nd : (ks.map (·.hand)).Nodup) : (ks.filter fun a => decide (a.hand = l ∧ a.box = b)) = ((ks.find? fun a => decide (a.hand = l ∧ a.box = b)).toList) := by
  induction ks with
  | nil => rfl
  | cons a ks ih =>
    rw [List.map_cons, List.nodup_cons] at nd
    rw [List.filter_cons, List.find?_cons]
    by_cases c : a.hand = l ∧ a.box = b
    · rw [decide_eq_true c]
      show a :: ks.filter _ = [a]
      congr 1
      rw [List.filter_eq_nil_iff]
      intro x hx hd
      have := of_decide_eq_true hd
      exact nd.1 (List.mem_map.mpr ⟨x, hx, by rw [this.1, c.1]⟩)
    · rw [decide_eq_false c]
      exact ih nd.2
structure LvF (k : Nat) (rows : List (List Int)) (ks : List Ask) (s l b : Nat) : Prop where
  non : lvR k rows ks s l b = none ↔ arrR k rows ks s l b = []
  run : ∀ d, lvR k rows ks s l b = some d → d.Ok ∧ ∀ v, d.mk' v = runR v (arrR k rows ks s l b)
theorem lvF {m : Nat} {ks : List Ask} (R : RndOk k m ks) : ∀ s l b, LvF k rows ks s l b
  | 0, l, b => by
    have e := one_of (l := l) (b := b) R.nd
    have e1 : arrR k rows ks 0 l b = (ks.find? fun a => decide (a.hand = (l : Int) ∧ a.box = (b : Int))).toList := e
    have e2 : lvR k rows ks 0 l b = (ks.find? fun a => decide (a.hand = (l : Int) ∧ a.box = (b : Int))).map (·.deed) := rfl
    cases h : ks.find? fun a => decide (a.hand = (l : Int) ∧ a.box = (b : Int)) with
    | none =>
      rw [h] at e1 e2
      exact ⟨by rw [e1, e2]; exact ⟨fun _ => rfl, fun _ => rfl⟩, fun d hd => by rw [e2] at hd; cases hd⟩
    | some a =>
      rw [h] at e1 e2
      refine ⟨by rw [e1, e2]; exact ⟨(fun z => nomatch z), (fun z => nomatch z)⟩, fun d hd => ?_⟩
      rw [e2] at hd
      cases Option.some.inj hd
      exact ⟨R.ok a (List.mem_of_find?_eq_some h), fun v => by rw [e1]; rfl⟩
  | s + 1, l, b => by
    have A := lvF R s (x0R k rows (s + 1) l) b
    have B := lvF R s (x1R k rows (s + 1) l) b
    by_cases c : figI k ((s + 1 : Nat) : Int) l = figI k ((s + 1 : Nat) : Int) ((b % 2 ^ k : Nat) : Int)
    · have e1 : arrR k rows ks (s + 1) l b = arrR k rows ks s (x0R k rows (s + 1) l) b ++ arrR k rows ks s (x1R k rows (s + 1) l) b := if_pos c
      have e2 : lvR k rows ks (s + 1) l b = joinO (lvR k rows ks s (x0R k rows (s + 1) l) b) (lvR k rows ks s (x1R k rows (s + 1) l) b) := if_pos c
      cases h0 : lvR k rows ks s (x0R k rows (s + 1) l) b with
      | none =>
        have a0 := A.non.mp h0
        rw [h0] at e2
        rw [a0, List.nil_append] at e1
        exact ⟨by rw [e1, e2]; exact B.non, fun d hd => by rw [e2] at hd; rw [e1]; exact B.run d hd⟩
      | some d0 =>
        have r0 := A.run d0 h0
        have n0 : arrR k rows ks s (x0R k rows (s + 1) l) b ≠ [] := fun z => by rw [A.non.mpr z] at h0; cases h0
        cases h1 : lvR k rows ks s (x1R k rows (s + 1) l) b with
        | none =>
          have a1 := B.non.mp h1
          rw [h0, h1] at e2
          rw [a1, List.append_nil] at e1
          refine ⟨by rw [e1, e2]; exact ⟨(fun z => nomatch z), (fun z => absurd z n0)⟩, fun d hd => ?_⟩
          rw [e2] at hd
          cases Option.some.inj hd
          rw [e1]; exact r0
        | some d1 =>
          have r1 := B.run d1 h1
          rw [h0, h1] at e2
          refine ⟨by rw [e1, e2]; exact ⟨(fun z => nomatch z), fun z => absurd (List.append_eq_nil_iff.mp z).1 n0⟩, fun d hd => ?_⟩
          rw [e2] at hd
          cases Option.some.inj hd
          refine ⟨joinD_ok r0.1 r1.1, fun v => ?_⟩
          rw [e1, runR_append, joinD_mk r0.1 r1.1, r1.2, r0.2]
    · have e1 : arrR k rows ks (s + 1) l b = [] := if_neg c
      have e2 : lvR k rows ks (s + 1) l b = none := if_neg c
      exact ⟨by rw [e1, e2]; exact ⟨fun _ => rfl, fun _ => rfl⟩, fun d hd => by rw [e2] at hd; cases hd⟩
theorem arr_fig {ks : List Ask} (k4 : k ≤ 4) (hs : SetOk k rows) : ∀ {s l b : Nat}, s ≤ k → l < 2 ^ k → arrR k rows ks s l b ≠ [] → ∀ t : Nat, 1 ≤ t → t ≤ s → figI k t l = figI k t ((b % 2 ^ k : Nat) : Int)
  | 0, l, b, _, _, _, t, t1, t2 => by omega
  | s + 1, l, b, sk, hl, h, t, t1, t2 => by
    by_cases c : figI k ((s + 1 : Nat) : Int) l = figI k ((s + 1 : Nat) : Int) ((b % 2 ^ k : Nat) : Int)
    · by_cases d : t = s + 1
      · rw [d]; exact c
      · have X := xF k4 hs (show 1 ≤ s + 1 by omega) sk hl
        have e1 : arrR k rows ks (s + 1) l b = arrR k rows ks s (x0R k rows (s + 1) l) b ++ arrR k rows ks s (x1R k rows (s + 1) l) b := if_pos c
        rw [e1] at h
        by_cases n0 : arrR k rows ks s (x0R k rows (s + 1) l) b = []
        · have n1 : arrR k rows ks s (x1R k rows (s + 1) l) b ≠ [] := fun z => h (by rw [n0, z]; rfl)
          have := arr_fig k4 hs (show s ≤ k by omega) X.lt1 n1 t t1 (by omega)
          rw [X.off1 t (by omega) d] at this; exact this
        · have := arr_fig k4 hs (show s ≤ k by omega) X.lt0 n0 t t1 (by omega)
          rw [X.off0 t (by omega) d] at this; exact this
    · exact absurd (if_neg c) h
theorem arr_out {ks : List Ask} (k4 : k ≤ 4) (hs : SetOk k rows) {s l b : Nat} (sk : s + 1 ≤ k) (hl : l < 2 ^ k) : arrR k rows ks (s + 1) (outR k (s + 1) l b) b = arrR k rows ks s (x0R k rows (s + 1) l) b ++ arrR k rows ks s (x1R k rows (s + 1) l) b := by
  have W := outF (b := b) k4 (show 1 ≤ s + 1 by omega) sk hl
  have X := out_x (b := b) k4 hs (show 1 ≤ s + 1 by omega) sk hl
  show (if figI k ((s + 1 : Nat) : Int) (outR k (s + 1) l b) = _ then _ else _) = _
  rw [if_pos (show figI k ((s + 1 : Nat) : Int) (outR k (s + 1) l b) = figI k ((s + 1 : Nat) : Int) ((b % 2 ^ k : Nat) : Int) from W.at_), X.1, X.2]
theorem lv_out {ks : List Ask} (k4 : k ≤ 4) (hs : SetOk k rows) {s l b : Nat} (sk : s + 1 ≤ k) (hl : l < 2 ^ k) : lvR k rows ks (s + 1) (outR k (s + 1) l b) b = joinO (lvR k rows ks s (x0R k rows (s + 1) l) b) (lvR k rows ks s (x1R k rows (s + 1) l) b) := by
  have W := outF (b := b) k4 (show 1 ≤ s + 1 by omega) sk hl
  have X := out_x (b := b) k4 hs (show 1 ≤ s + 1 by omega) sk hl
  show (if figI k ((s + 1 : Nat) : Int) (outR k (s + 1) l b) = _ then _ else _) = _
  rw [if_pos (show figI k ((s + 1 : Nat) : Int) (outR k (s + 1) l b) = figI k ((s + 1 : Nat) : Int) ((b % 2 ^ k : Nat) : Int) from W.at_), X.1, X.2]
theorem lv_src {ks : List Ask} (k4 : k ≤ 4) (hs : SetOk k rows) {s l b : Nat} (sk : s + 1 ≤ k) (hl : l < 2 ^ k) (h : lvR k rows ks (s + 1) l b ≠ none) : ∃ x, x < 2 ^ k ∧ outR k (s + 1) x b = l ∧ lvR k rows ks s x b ≠ none := by
  by_cases c : figI k ((s + 1 : Nat) : Int) l = figI k ((s + 1 : Nat) : Int) ((b % 2 ^ k : Nat) : Int)
  · have e2 : lvR k rows ks (s + 1) l b = joinO (lvR k rows ks s (x0R k rows (s + 1) l) b) (lvR k rows ks s (x1R k rows (s + 1) l) b) := if_pos c
    have X := xF k4 hs (show 1 ≤ s + 1 by omega) sk hl
    have back : ∀ x : Nat, x < 2 ^ k → (∀ t : Nat, t ≤ k → t ≠ s + 1 → figI k t x = figI k t l) → outR k (s + 1) x b = l := by
      intro x hx ho
      have W := outF (b := b) k4 (show 1 ≤ s + 1 by omega) sk hx
      refine fig_inj k4 W.lt hl fun t t1 tk => ?_
      by_cases d : t = s + 1
      · rw [d]; exact W.at_.trans c.symm
      · exact (W.off t tk d).trans (ho t tk d)
    cases h0 : lvR k rows ks s (x0R k rows (s + 1) l) b with
    | some d => exact ⟨_, X.lt0, back _ X.lt0 X.off0, by rw [h0]; exact fun z => nomatch z⟩
    | none =>
      refine ⟨_, X.lt1, back _ X.lt1 X.off1, fun z => h ?_⟩
      rw [e2, h0, z]; rfl
  · exact absurd (if_neg c) h
def stvR (k : Nat) (rows : List (List Int)) (ks : List Ask) (bd : Nat → Int) : Nat → Nat → Nat → Int
  | 0, _, b => bd b
  | n + 1, l, b => match lvR k rows ks (k - n - 1) (x0R k rows (k - n) l) b, lvR k rows ks (k - n - 1) (x1R k rows (k - n) l) b with
    | some d, some _ => if l = x1R k rows (k - n) l then d.mk' (stvR k rows ks bd n (outR k (k - n) l b) b) else stvR k rows ks bd n (outR k (k - n) l b) b
    | _, _ => stvR k rows ks bd n (outR k (k - n) l b) b
theorem stv_pre {m : Nat} {ks : List Ask} {bd : Nat → Int} (R : RndOk k m ks) (k4 : k ≤ 4) (hs : SetOk k rows) {b : Nat} : ∀ n, n ≤ k → ∀ l, l < 2 ^ k → arrR k rows ks (k - n) l b ≠ [] →
    ∃ pre post, arrR k rows ks k (b % 2 ^ k) b = pre ++ arrR k rows ks (k - n) l b ++ post ∧ stvR k rows ks bd n l b = runR (bd b) pre
  | 0, _, l, hl, h => by
    have e : l = b % 2 ^ k := fig_inj k4 hl side_lt fun t t1 tk => arr_fig k4 hs (Nat.le_refl k) hl h t t1 tk
    exact ⟨[], [], by rw [← e]; simp, rfl⟩
  | n + 1, hn, l, hl, h => by
    have s1 : 1 ≤ k - n := by omega
    have sk : k - n ≤ k := by omega
    have es : k - n = k - (n + 1) + 1 := by omega
    have W := outF (b := b) k4 s1 sk hl
    have X := xF k4 hs s1 sk hl
    have ao : arrR k rows ks (k - n) (outR k (k - n) l b) b = arrR k rows ks (k - (n + 1)) (x0R k rows (k - n) l) b ++ arrR k rows ks (k - (n + 1)) (x1R k rows (k - n) l) b := by
      have := arr_out (ks := ks) (b := b) k4 hs (s := k - (n + 1)) (show k - (n + 1) + 1 ≤ k by omega) hl
      rw [← es] at this; exact this
    have F0 := lvF (rows := rows) R (k - (n + 1)) (x0R k rows (k - n) l) b
    have F1 := lvF (rows := rows) R (k - (n + 1)) (x1R k rows (k - n) l) b
    have ne : arrR k rows ks (k - n) (outR k (k - n) l b) b ≠ [] := by
      rw [ao]
      intro z
      obtain ⟨z0, z1⟩ := List.append_eq_nil_iff.mp z
      rcases X.or with e | e
      · rw [← e] at z0; exact h z0
      · rw [← e] at z1; exact h z1
    obtain ⟨pre, post, e1, e2⟩ := stv_pre R k4 hs n (by omega) (outR k (k - n) l b) W.lt ne
    rw [ao] at e1
    have es' : k - n - 1 = k - (n + 1) := by omega
    have eu : stvR k rows ks bd (n + 1) l b = match lvR k rows ks (k - (n + 1)) (x0R k rows (k - n) l) b, lvR k rows ks (k - (n + 1)) (x1R k rows (k - n) l) b with
      | some d, some _ => if l = x1R k rows (k - n) l then d.mk' (stvR k rows ks bd n (outR k (k - n) l b) b) else stvR k rows ks bd n (outR k (k - n) l b) b
      | _, _ => stvR k rows ks bd n (outR k (k - n) l b) b := by
      rw [← es']; rfl
    rcases X.or with e | e
    · have ne1 : ¬ l = x1R k rows (k - n) l := fun z => X.ne (e.symm.trans z)
      refine ⟨pre, arrR k rows ks (k - (n + 1)) (x1R k rows (k - n) l) b ++ post, by rw [e1, ← e]; simp, ?_⟩
      rw [eu]
      split
      · rw [if_neg ne1]; exact e2
      · exact e2
    · refine ⟨pre ++ arrR k rows ks (k - (n + 1)) (x0R k rows (k - n) l) b, post, by rw [e1, ← e]; simp, ?_⟩
      rw [eu, runR_append]
      split
      · rename_i d0 d1 h0 h1
        rw [if_pos e, e2]
        exact (F0.run d0 h0).2 _
      · rename_i hno
        cases h0 : lvR k rows ks (k - (n + 1)) (x0R k rows (k - n) l) b with
        | none => rw [F0.non.mp h0]; exact e2
        | some d0 =>
          cases h1 : lvR k rows ks (k - (n + 1)) (x1R k rows (k - n) l) b with
          | none => have z := F1.non.mp h1; rw [← e] at z; exact absurd z h
          | some d1 => exact absurd h1 (hno d0 d1 h0)
theorem flat_congR {α β : Type} {f g : α → List β} : ∀ {xs : List α}, (∀ x ∈ xs, f x = g x) → xs.flatMap f = xs.flatMap g
  | [], _ => rfl
  | x :: xs, h => by rw [List.flatMap_cons, List.flatMap_cons, h x (by simp), flat_congR fun y hy => h y (by simp [hy])]
theorem arr_ord {ks : List Ask} (k4 : k ≤ 4) (hs : SetOk k rows) {b : Nat} : ∀ n, n ≤ k → arrR k rows ks k (b % 2 ^ k) b = (ordL k rows (b % 2 ^ k) n).flatMap fun l => arrR k rows ks (k - n) l b
  | 0, _ => by show _ = ([b % 2 ^ k] : List Nat).flatMap _; simp
  | n + 1, hn => by
    rw [arr_ord k4 hs n (by omega)]
    show _ = ((ordL k rows (b % 2 ^ k) n).flatMap (inO k rows (k - n))).flatMap _
    rw [List.flatMap_assoc]
    have F := ordF (rows := rows) k4 hs (side_lt (k := k) (b := b)) n (by omega)
    refine flat_congR fun l hl => ?_
    obtain ⟨h1, h2⟩ := F.mem l hl
    have es : k - n = k - (n + 1) + 1 := by omega
    show _ = [x0R k rows (k - n) l, x1R k rows (k - n) l].flatMap _
    simp only [List.flatMap_cons, List.flatMap_nil, List.append_nil]
    have c : figI k ((k - (n + 1) + 1 : Nat) : Int) l = figI k ((k - (n + 1) + 1 : Nat) : Int) ((b % 2 ^ k : Nat) : Int) := h2 _ (by omega) (by omega)
    have e : arrR k rows ks (k - (n + 1) + 1) l b = arrR k rows ks (k - (n + 1)) (x0R k rows (k - (n + 1) + 1) l) b ++ arrR k rows ks (k - (n + 1)) (x1R k rows (k - (n + 1) + 1) l) b := if_pos c
    rw [← es] at e
    exact e
end
end L3

namespace L3
open PySem PySem.Spec PyProof.Rows L2 PySem.W
section
variable {prog : Program} {w : World} {A : Around} {E : Value → Shared → Prop} {s : Shared} {es : Array DictEntry} {d it r : Addr} {ep i : Nat} {ok ov : Value}
theorem itm_view {Q : Value → Shared → Prop} (lo : (d == sysModules) = false) (hm : EntAt es d ep s.heap) (q : Q (.ref s.heap.objs.size) { s with heap := s.heap.push { cls := .type "dict_items", data := .fields #[.ref d] } }) :
    wpAny (model prog w) A (call (.builtin "dict.items") [.ref d]) Q E s := by
  have hT : s.TypeIs (.ref d) "dict" := hm.typeIs
  refine wpAny_call_entry PySem.F.slot_dict_items hT PySem.F.entry_dict_items ?_ (PySem.F.args_dict_items_1 _)
  unfold Builtin.«dict.items»
  refine wpAny_bind ?_
  unfold Builtin.Dict.noArgs
  refine wpAny_bind (wpAny_notOrdered_dict hT (show wpAny _ _ (pure d) _ _ s from wpAny_pure ?_))
  show wpAny _ _ (Builtin.Dict.showsAll d >>= _) _ _ s
  unfold Builtin.Dict.showsAll
  rw [if_neg (by rw [lo]; exact Bool.false_ne_true)]
  exact wpAny_bind (wpAny_pure (wpAny_bind (wpAny_newObj_type (wpAny_pure ⟨_, rfl, q⟩))))
theorem itm_iter {Q : Value → Shared → Prop} (hv : s.heap.IsItemsView r d) (hm : EntAt es d ep s.heap)
    (hQ : Q (.ref s.heap.objs.size) { s with heap := s.heap.push { cls := .type "dict_itemiterator", data := .fields #[.none, .bool false, .ref d, .int 0 0, .int es.size 0, .int ep 0, .none, .none] } }) :
    wpAny (model prog w) A (pyIter (.ref r)) Q E s := by
  obtain ⟨o1, h1, c1, d1⟩ := id hv
  obtain ⟨o, ho, hc, hdat⟩ := id hm
  refine wpAny_pyIter_slot hv.typeIs PySem.F.slot_dict_items_iter (wpAny_call_entry PySem.F.slot_dict_items_iter hv.typeIs PySem.F.entry_dict_items_iter ?_ (PySem.F.args_dict_items_iter_1 _))
  unfold Builtin.«dict_items.__iter__»
  refine wpAny_bind (wpAny_pure (wpAny_bind ?_))
  unfold Builtin.Dict_items.dictOf
  refine wpAny_bind (wpAny_field h1 d1 (x := .ref d) rfl (wpAny_pure (wpAny_bind ?_)))
  unfold Builtin.Dict_items.newIterator
  refine wpAny_bind (wpAny_dictEntries ho hdat (wpAny_bind (wpAny_dictEpoch ho hdat ?_)))
  have own : Builtin.Dict_items.ownsTuple "dict_itemiterator" = true := by decide
  simp only [own, if_true]
  refine wpAny_newObj_type (wpAny_pure ⟨_, rfl, "dict_itemiterator", _, ⟨_, Heap.get?_push_size _ rfl, rfl⟩, PySem.F.slot_dict_itemiterator_next.lookup, ?_⟩)
    (by simp only [sizeOk, Builtin.Dict_items.ownedTupleFields, List.size_toArray, List.length_append, List.length_cons, List.length_nil, sizeLine_eq]; omega)
  simpa [rawInt, Builtin.Dict_items.ownedTupleFields] using hQ
theorem itm_next {Q : Option Value → Shared → Prop} (hit : IsItemIter s.heap it d i es.size ep ok ov) (hm : EntAt es d ep s.heap) (hlt : i < es.size)
    (hQ : ∀ h', IsItemIterOut h' it d (i + 1) es.size ep es[i].key es[i].val s.heap.objs.size → h'.get? s.heap.objs.size = some { cls := .type "tuple", data := .seq #[es[i].key, es[i].val] } →
      (∀ b o, b ≠ it → s.heap.get? b = some o → h'.get? b = some o) → Q (some (.ref s.heap.objs.size)) { s with heap := h' }) :
    wpAny (model prog w) A (pyNext (.ref it)) Q E s := by
  obtain ⟨hp, g, dr, tk, os⟩ := s
  obtain ⟨od, hod, hcd, hdd⟩ := id hm
  have hT : Shared.TypeIs ⟨hp, g, dr, tk, os⟩ (.ref it) "dict_itemiterator" := ⟨_, hit, rfl⟩
  unfold pyNext
  refine wpAny_bind (wpAny_attempt (wpAny_callSpecial?_slot (name := Str.ofString "__next__") hT PySem.F.slot_dict_itemiterator_next
    (wpAny_call_entry PySem.F.slot_dict_itemiterator_next hT PySem.F.entry_dict_itemiterator_next ?_ (PySem.F.args_dict_itemiterator_next_1 _))))
  refine wpAny_bind (wpAny_pure (wpAny_bind (wpAny_bind ?_)))
  first | refine wpAny_bind (wpAny_typeNameOfWhole_itemiter hT (wpAny_pure ?_)) | refine wpAny_bind (wpAny_typeNameOf_itemiter hT (wpAny_pure ?_))
  refine wpAny_bind (wpAny_fieldsOf hit rfl ?_)
  have own : Builtin.Dict_items.ownsTuple "dict_itemiterator" = true := by decide
  simp only [own, if_true]
  show wpAny _ _ (if (Value.ref d == Value.none) = true then _ else _) _ _ _
  rw [if_neg (show ¬ ((Value.ref d == Value.none) = true) from Bool.false_ne_true)]
  refine wpAny_bind (wpAny_pure (wpAny_bind (wpAny_dictEntries hod hdd ?_)))
  rw [if_neg (by simp)]
  refine wpAny_bind (wpAny_pure (wpAny_bind (wpAny_dictEpoch hod hdd ?_)))
  rw [if_neg (by simp)]
  refine wpAny_pure ?_
  simp only [show ¬ ((i : Int) < 0) from by omega, if_false, Int.toNat_natCast, Array.getElem?_eq_getElem hlt]
  refine wpAny_bind ?_
  first | refine wpAny_bind (wpAny_typeNameOfWhole_itemiter hT (wpAny_pure ?_)) | refine wpAny_bind (wpAny_typeNameOf_itemiter hT (wpAny_pure ?_))
  refine wpAny_bind (wpAny_isOneOf_itemiter hT ?_)
  show wpAny _ _ (setField (.ref it) 3 (rawInt ((i : Int) + 1)) >>= _) _ _ ⟨hp, g, dr, tk, os⟩
  refine wpAny_bind (wpAny_setField_rec hit (by simp) fun h1 he1 hs1 => ?_)
  replace hs1 : Heap.SameBut it hp h1 := hs1
  replace he1 : IsItemIter h1 it d (i + 1) es.size ep ok ov := by
    have e : ((i + 1 : Nat) : Int) = (i : Int) + 1 := by omega
    unfold IsItemIter; rw [e]; simpa [rawInt] using he1
  have hT1 : Shared.TypeIs ⟨h1, g, dr, tk, os⟩ (.ref it) "dict_itemiterator" := ⟨_, he1, rfl⟩
  refine wpAny_bind (wpAny_holding (wpAny_bind (wpAny_isOneOf_itemiter hT1 (wpAny_bind (wpAny_isOneOf_itemiter hT1 ?_)))))
  show wpAny _ _ (Builtin.Dict_items.pairFromOwner (.ref it) 6 es[i].key es[i].val) _ _ ⟨h1, g, dr, tk, os⟩
  unfold Builtin.Dict_items.pairFromOwner
  refine wpAny_bind (wpAny_newTuple ?_)
  have he2 : IsItemIter (h1.push { cls := .type "tuple", data := .seq #[es[i].key, es[i].val] }) it d (i + 1) es.size ep ok ov := Heap.get?_push_of_some _ he1
  generalize hh2 : h1.push { cls := .type "tuple", data := .seq #[es[i].key, es[i].val] } = h2 at he2
  have hz1 : h1.objs.size = hp.objs.size := hs1.1
  have hil : it < hp.objs.size := Heap.lt_size hit
  have ht2 : h2.get? hp.objs.size = some { cls := .type "tuple", data := .seq #[es[i].key, es[i].val] } := by rw [← hh2, ← hz1]; exact Heap.get?_push_size _ rfl
  have hk2 : ∀ b o, b ≠ it → hp.get? b = some o → h2.get? b = some o := fun b o hb e => by rw [← hh2]; exact Heap.get?_push_of_some _ (hs1.extBut b o hb e)
  show wpAny _ _ (Builtin.Dict_items.ownedTupleIsFree (.ref it) >>= _) _ _ ⟨h2, g, dr, tk, os⟩
  rw [hz1]
  clear hh2 he1 hs1 hT1 hz1 h1
  refine wpAny_bind ?_
  unfold Builtin.Dict_items.ownedTupleIsFree
  refine wpAny_bind (wpAny_field he2 rfl (x := .none) rfl (wpAny_pure ?_))
  simp only [if_true]
  refine wpAny_bind (wpAny_field he2 rfl (x := ok) rfl (wpAny_bind (wpAny_field he2 rfl (x := ov) rfl ?_)))
  refine wpAny_bind (wpAny_setField_rec he2 (by simp) fun h3 he3 hs3 => ?_)
  replace hs3 : Heap.SameBut it h2 h3 := hs3
  replace he3 : IsItemIter h3 it d (i + 1) es.size ep es[i].key ov := he3
  refine wpAny_bind (wpAny_setField_rec he3 (by simp) fun h4 he4 hs4 => ?_)
  replace hs4 : Heap.SameBut it h3 h4 := hs4
  replace he4 : IsItemIter h4 it d (i + 1) es.size ep es[i].key es[i].val := he4
  refine wpAny_bind (wpAny_setField_rec he4 (by simp) fun h5 he5 hs5 => ?_)
  replace hs5 : Heap.SameBut it h4 h5 := hs5
  replace he5 : IsItemIterOut h5 it d (i + 1) es.size ep es[i].key es[i].val hp.objs.size := he5
  refine wpAny_bind (wpAny_setField_rec he5 (by simp) fun h6 he6 hs6 => ?_)
  replace hs6 : Heap.SameBut it h5 h6 := hs6
  replace he6 : IsItemIterOut h6 it d (i + 1) es.size ep es[i].key es[i].val hp.objs.size := he6
  have keep : ∀ b o, b ≠ it → h2.get? b = some o → h6.get? b = some o := fun b o hb e => hs6.extBut b o hb (hs5.extBut b o hb (hs4.extBut b o hb (hs3.extBut b o hb e)))
  exact wpAny_bind (wpAny_letGo (wpAny_pure (wpAny_pure ⟨_, rfl, wpAny_pure (hQ h6 he6 (keep _ _ (Nat.ne_of_gt hil) ht2) fun b o hb e => keep b o hb (hk2 b o hb e))⟩)))
theorem itm_end {Q : Option Value → Shared → Prop} (hh : A.handled = none) (hit : IsItemIter s.heap it d es.size es.size ep ok ov) (hm : EntAt es d ep s.heap)
    (hQ : ∀ h', Heap.ExtBut it s.heap h' → Q none { s with heap := h' }) : wpAny (model prog w) A (pyNext (.ref it)) Q E s := by
  obtain ⟨od, hod, hcd, hdd⟩ := id hm
  have hT : s.TypeIs (.ref it) "dict_itemiterator" := ⟨_, hit, rfl⟩
  unfold pyNext
  refine wpAny_bind (wpAny_attempt (wpAny_callSpecial?_slot (name := Str.ofString "__next__") hT PySem.F.slot_dict_itemiterator_next
    (wpAny_call_entry PySem.F.slot_dict_itemiterator_next hT PySem.F.entry_dict_itemiterator_next ?_ (PySem.F.args_dict_itemiterator_next_1 _))))
  refine wpAny_bind (wpAny_pure (wpAny_bind (wpAny_bind ?_)))
  first | refine wpAny_bind (wpAny_typeNameOfWhole_itemiter hT (wpAny_pure ?_)) | refine wpAny_bind (wpAny_typeNameOf_itemiter hT (wpAny_pure ?_))
  refine wpAny_bind (wpAny_fieldsOf hit rfl ?_)
  have own : Builtin.Dict_items.ownsTuple "dict_itemiterator" = true := by decide
  simp only [own, if_true]
  show wpAny _ _ (if (Value.ref d == Value.none) = true then _ else _) _ _ s
  rw [if_neg (show ¬ ((Value.ref d == Value.none) = true) from Bool.false_ne_true)]
  refine wpAny_bind (wpAny_pure (wpAny_bind (wpAny_dictEntries hod hdd ?_)))
  rw [if_neg (by simp)]
  refine wpAny_bind (wpAny_pure (wpAny_bind (wpAny_dictEpoch hod hdd ?_)))
  rw [if_neg (by simp)]
  refine wpAny_pure ?_
  simp only [show ¬ ((es.size : Int) < 0) from by omega, if_false, Int.toNat_natCast, Array.getElem?_eq_none (Nat.le_refl es.size)]
  refine wpAny_bind ?_
  first | refine wpAny_bind (wpAny_typeNameOfWhole_itemiter hT (wpAny_pure ?_)) | refine wpAny_bind (wpAny_typeNameOf_itemiter hT (wpAny_pure ?_))
  show wpAny _ _ (setField (.ref it) 2 .none >>= _) _ _ s
  refine wpAny_bind (wpAny_setField hit rfl (by simp) ?_)
  show wpAny _ _ (newExc (.type "StopIteration") [] >>= _) _ _ _
  refine wpAny_bind ?_
  simp only [newExc, newTuple]
  refine wpAny_bind (wpAny_newObj_type ?_ (by size_fits))
  refine wpAny_bind (m := firstArgMember _ _) (wpAny_of_eq (a := Value.none) (by first | rfl | (simp only [firstArgMember]; rfl)) ?_)
  refine wpAny_newObj_type ?_ (by size_fits)
  simp only [raiseNew]
  refine wpAny_bind (wpAny_handled ?_)
  rw [show A.in1.handled = none from hh]
  refine wpAny_bind (wpAny_pure (wpAny_throw ?_))
  refine wpAny_bind (wpAny_isInstance (T := "StopIteration") (b := true) ⟨_, Heap.get?_push_size _ rfl, rfl⟩ isSubtype_stop ?_)
  exact wpAny_pure (hQ _ (((Heap.SameBut.update ..).extBut.push _).push _))
end
theorem entry_itmI : entryFor table "dict_itemiterator.__iter__" = some Builtin.«dict_keyiterator.__iter__» := entryFor_alias (id' := "dict_keyiterator.__iter__") (by kernel_rfl) rfl (by decide +kernel) (by kernel_rfl)
theorem paired_at {α β : Type} {R : α → β → Prop} : ∀ {as : List α} {bs : List β} {i : Nat} {b : β}, Paired R as bs → bs[i]? = some b → ∃ a, as[i]? = some a ∧ R a b
  | _, _, 0, _, .cons r _, e => ⟨_, rfl, by cases Option.some.inj e; exact r⟩
  | _, _, i + 1, _, .cons _ t, e => paired_at (i := i) t e
def Iti (a : Addr) (o : Obj) (kvs : List (List Key × V)) : It :=
  ⟨fun i H => i < kvs.length ∧ H a = some (.frz o (.dT kvs)), fun i H x H' => ∃ T b p, H T = none ∧ x = .ref T ∧ kvs[i]? = some p ∧ H b = some (.tup (p.1.map kV)) ∧ H' = upd H T (.tup [.ref b, p.2]), fun i H => i = kvs.length ∧ H a = some (.frz o (.dT kvs))⟩
theorem turn_itm {P : Program} {w : World} {K : PySem.W.Frag} {elts : List Expr} {kt : Nat} {pt : Pos} (a it : Addr) (o : Obj) (es : Array DictEntry) (ep : Nat) (kvs : List (List Key × V)) (hx : o.ExactDict) (hd : o.data = .dict es ep) (hes : es.size = kvs.length) :
    Turn P w K (.Tuple elts kt pt) (Iti a o kvs) [it] it (fun i h => ∃ ok ov, IsItemIter h it a i es.size ep ok ov) where
  mem := by simp
  obj := fun i h st b hb => by
    have e : b = it := by simpa using hb
    subst e
    obtain ⟨ok, ov, st⟩ := st
    exact ⟨_, st, fun v z => by cases z⟩
  keep := fun i h h' st k => by
    obtain ⟨ok, ov, st⟩ := st
    exact ⟨ok, ov, k it (by simp) _ st⟩
  item := by
    intro X hP hw hK hc i pins s σ H E I hf st hg
    subst hP hw hK
    obtain ⟨ok, ov, st⟩ := st
    obtain ⟨hi, hH⟩ := hg
    obtain ⟨xs, rel, g, he⟩ := ent_of (I.hok a _ hH) hd
    have hl : kvs.length = xs.length := Paired.length rel
    have hy : i < xs.length := by omega
    have hie : i < es.size := by omega
    have ee := entry_at he i
    rw [Array.getElem?_eq_getElem hie, List.getElem?_eq_getElem hy, Option.map_some] at ee
    have ek : es[i].key = Value.ref xs[i].2.1 := by rw [Option.some.inj ee]; rfl
    have ev : es[i].val = xs[i].2.2 := by rw [Option.some.inj ee]; rfl
    obtain ⟨p, hp, r1, r2, r3⟩ := paired_at rel (List.getElem?_eq_getElem hy)
    refine itm_next st ⟨o, g, hx, hd⟩ hie fun h1 hout hT hk => ?_
    refine ⟨_, rfl, wpAny_letOwnedTupleGo_items (s := { s with heap := h1 }) hout fun h2 he2 hs2 => ?_⟩
    have eT : s.heap.objs.size ≠ it := Nat.ne_of_gt (Heap.lt_size st)
    have hk2 : ∀ b o, b ∉ [it] → s.heap.get? b = some o → h2.get? b = some o := fun b o hb q => by
      have n1 : b ≠ it := fun z => hb (by simp [z])
      exact (hs2.2 b n1).trans (hk b o n1 q)
    have hT2 : h2.get? s.heap.objs.size = some { cls := .type "tuple", data := .seq #[es[i].key, es[i].val] } := (hs2.2 _ eT).trans hT
    have hn : H s.heap.objs.size = none := I.hok.fresh (Nat.le_refl _)
    have I2 : Inv X pins σ (upd H s.heap.objs.size (.tup [.ref xs[i].2.1, p.2])) { s with heap := h2, toks := s.toks } := turnLaid (s := s) I hk2 hf (Nat.le_refl _) ⟨by show 2 ≤ sizeLine; decide, [es[i].key, es[i].val], .cons ek (.cons (by rw [ev]; exact r3) .nil), _, hT2, rfl, 0, rfl⟩
    refine ⟨.ref s.heap.objs.size, _, I2, rfl, ⟨_, _, p, hn, rfl, hp, r2, rfl⟩, ⟨_, _, he2⟩, fun b hb => ?_⟩
    have e : b = it := by simpa using hb
    subst e
    rw [upd_ne (Ne.symm eT)]
    exact (hf b (by simp)).1
  done := by
    intro X hP hw hK hc i pins s σ H E I hf st hg
    subst hP hw hK
    obtain ⟨ok, ov, st⟩ := st
    obtain ⟨hi, hH⟩ := hg
    obtain ⟨xs, rel, g, he⟩ := ent_of (I.hok a _ hH) hd
    have ei : i = es.size := by omega
    subst ei
    exact itm_end (I.ok.hd hc) st ⟨o, g, hx, hd⟩ fun h' eb => ⟨rfl, turnedL (fp := [it]) (t' := s.toks) I (fun b o hb q => eb b o (fun z => hb (by simp [z])) q) hf⟩
  self := fun _ _ _ _ _ st h => by
    obtain ⟨ok, ov, st⟩ := st
    have hT : Shared.TypeIs _ (.ref it) "dict_itemiterator" := ⟨_, st, rfl⟩
    refine wpAny_pyIter_slot hT PySem.F.slot_dict_itemiterator_iter (wpAny_call_entry PySem.F.slot_dict_itemiterator_iter hT entry_itmI ?_ (PySem.F.args_dict_itemiterator_iter_1 _))
    show wpAny _ _ (ret (.ref it)) _ _ _
    exact wpAny_pure ⟨_, rfl, "dict_itemiterator", _, hT, PySem.F.slot_dict_itemiterator_next.lookup, h⟩
section
variable {X : Cx} {elts : List Expr} {kt : Nat} {pt : Pos}
def iItm (tl : TE) : TI := fun σ H R => tl σ H fun x H1 => ∃ a kvs, x = .ref a ∧ Rd H1 a (.dT kvs) ∧ ∀ o H', H' a = some (.frz o (.dT kvs)) → Grow [a] H1 H' → (∀ b, b ≠ a → H' b = H1 b) → R (Iti a o kvs) H'
theorem pi_itm {o : Expr} {to : TE} {apos cpos : Pos} (ho : PE X o to)
    (hbase : attributeBase o "items" X.env (eval o X.env) = eval o X.env := by rfl) (hline : (apos.endLine == cpos.line) = true := by rfl) :
    PI X (.Tuple elts kt pt) (.Call (.Attribute o "items" apos) [] [] cpos) (iItm to) := by
  intro pins s σ H R I h
  refine wpAny_Call_method0_late hbase hline (thn (ho pins s σ H _ I h) fun v s1 ⟨x, H1, I1, r1, a, kvs, ex, hrd, q⟩ => ?_)
  subst ex
  obtain rfl : v = Value.ref a := r1
  have key : ∀ (H2 : Hp) (ob : Obj), Inv X pins σ H2 s1 → H2 a = some (.frz ob (.dT kvs)) → R (Iti a ob kvs) H2 → MethodOn X.prog X.w X.A "items" cpos (.ref a) [] (fun v s1 => wpAny (model X.prog X.w) X.A (pyIter v) (PIE X pins σ (.Tuple elts kt pt) R) X.xe s1) X.xe s1 := by
    intro H2 ob I2 hH hR
    obtain ⟨g, z, lo, xs, rel, o', es, ep, g', hx, hd, he, nd⟩ := (show ObjOk X.prog X.w H2 s1.heap a (.frz ob (.dT kvs)) from I2.hok a _ hH)
    rw [g] at g'
    cases g'
    have hl : kvs.length = xs.length := Paired.length rel
    have hes : es.size = xs.length := size_of_entries he
    have em : EntAt es a ep s1.heap := ⟨ob, g, hx, hd⟩
    refine ⟨"dict", "dict.items", PySem.F.plainAttrs_dict, PySem.F.slot_dict_items, PySem.F.type_dict_items, em.typeIs, fun b e => by cases e; exact ⟨ob, g, hx.2.1⟩, Calls.callWith_builtin rfl (PySem.evalArgs_none (itm_view lo em ?_))⟩
    have em' : EntAt es a ep (s1.heap.push { cls := .type "dict_items", data := .fields #[.ref a] }) := em.keep fun o e => Heap.get?_push_of_some _ e
    have I3 : Inv X pins σ H2 { s1 with heap := s1.heap.push { cls := .type "dict_items", data := .fields #[.ref a] } } := I2.kept (t' := s1.toks) fun b o e => Heap.get?_push_of_some _ e
    refine itm_iter (s := { s1 with heap := s1.heap.push { cls := .type "dict_items", data := .fields #[.ref a] } }) ⟨_, Heap.get?_push_size _ rfl, rfl, rfl⟩ em' ?_
    refine ⟨_, [_], _, _, H2, rfl, I3.kept (t' := s1.toks) fun b o e => Heap.get?_push_of_some _ e, turn_itm a _ ob es ep kvs hx hd (by omega), ⟨_, _, Heap.get?_push_size _ rfl⟩, fun b hb => ?_, hR⟩
    have e := List.mem_singleton.mp hb
    subst e
    exact I3.fpOk (Nat.le_refl _) (I3.hok.fresh (Nat.le_refl _))
  rcases hrd with ha | ⟨ob, ha⟩
  · obtain ⟨z, lo, xs, rel, ob, es, ep, g, hx, hd, he, nd⟩ := (show ObjOk X.prog X.w H1 s1.heap a (.dT kvs) from I1.hok a _ ha)
    have I2 : Inv X pins σ (upd H1 a (.frz ob (.dT kvs))) { s1 with heap := s1.heap, toks := s1.toks } := d_write I1 (by rw [ha]; trivial) (Heap.SameBut.refl ..) ⟨ob, g⟩ ⟨g, z, lo, xs, ?_, ob, es, ep, g, hx, hd, he, nd⟩
    · exact key _ ob I2 upd_same (q ob _ upd_same (Grow.frzR ha (by simp)) fun b hb => upd_ne hb)
    · refine KT.keeps rel fun b ys e => ?_
      have : b ≠ a := fun z => by rw [z, ha] at e; cases e
      rw [upd_ne this]; exact e
  · exact key _ ob I1 ha (q ob _ ha (Grow.refl _ _) fun _ _ => rfl)
end
theorem for_itm {a : Addr} {o : Obj} {kvs : List (List Key × V)} {g : TG} {tb : TS} {D : Ends} {σ : L2.St} {H : Hp} (Pv : Nat → L2.St → Hp → Prop) (h0 : Pv 0 σ H) (hl : ∀ i σ H, i ≤ kvs.length → Pv i σ H → H a = some (.frz o (.dT kvs)))
    (hs : ∀ i p b T σ H, kvs[i]? = some p → H b = some (.tup (p.1.map kV)) → H T = none → Pv i σ H → g (.ref T) σ (upd H T (.tup [.ref b, p.2])) fun σ2 H2 => tb { D with nx := Pv (i + 1), ct := Pv (i + 1), bk := D.nx } σ2 H2) (hd : ∀ σ H, Pv kvs.length σ H → D.nx σ H) :
    ∃ W : Nat → Nat → L2.St → Hp → Prop, (∃ m, W 0 m σ H) ∧ ∀ i m σ H, W i m σ H →
      ((Iti a o kvs).stop i H ∧ D.nx σ H) ∨ ((Iti a o kvs).go i H ∧ ∃ N : L2.St → Hp → Prop, (∀ σ' H', N σ' H' → ∃ m', m' < m ∧ W (i + 1) m' σ' H') ∧ ∀ x H', (Iti a o kvs).yld i H x H' → g x σ H' fun σ2 H2 => tb { D with nx := N, ct := N, bk := D.nx } σ2 H2) := by
  refine ⟨fun i m σ H => m = kvs.length - i ∧ i ≤ kvs.length ∧ Pv i σ H, ⟨kvs.length, by simp, Nat.zero_le _, h0⟩, ?_⟩
  rintro i m σ H ⟨rfl, hi, p⟩
  have q := hl i σ H hi p
  by_cases hlt : i < kvs.length
  · refine .inr ⟨⟨hlt, q⟩, Pv (i + 1), fun σ' H' p' => ⟨kvs.length - (i + 1), by omega, rfl, hlt, p'⟩, fun x H' y => ?_⟩
    obtain ⟨T, b, pk, hT, rfl, hp, hb, rfl⟩ := y
    exact hs i pk b T σ H hp hb hT p
  · have e : i = kvs.length := by omega
    exact .inl ⟨⟨e, q⟩, hd σ H (e ▸ p)⟩
end L3

namespace L3
open PySem PySem.Spec PyProof.Rows L2
def dedI (ns : List Int) : List Int := ns.foldl step_dedup []
theorem ded_first {ns : List Int} : firstMet (fun i => ns.getD i 0) ns.length = dedI ns := by
  unfold firstMet dedI
  congr 1
  refine List.ext_getElem? fun i => ?_
  by_cases h : i < ns.length
  · rw [List.getElem?_map, List.getElem?_range h, Option.map_some, List.getD_eq_getElem?_getD, List.getElem?_eq_getElem h]; rfl
  · rw [List.getElem?_map, List.getElem?_eq_none (by rw [List.length_range]; omega), List.getElem?_eq_none (by omega)]; rfl
theorem ints_are : ∀ {ns : List Int} {us : List Value}, Vals (ns.map V.int) us → IntsAre us ns
  | [], _, .nil => .nil
  | n :: ns, _, .cons r t => by
    obtain ⟨tk, rfl⟩ := r
    exact .cons n tk (ints_are t)
theorem b_set : bootBuiltins "set" = some (.type "set") := by decide +kernel
section
variable {X : Cx}
theorem call_setL {k : Nat} (hr : Room k X.A) : CallR X (.type "set") (fun xs H Q => ∃ a ns, xs = [V.ref a] ∧ SqL X.K H a (ns.map V.int) ∧ ns.length ≤ 1000 ∧ ∀ l, H l = none → Q (.ref l) (upd H l (.set (fun j => (dedI ns).any (· == j)) (dedI ns).length))) := by
  intro pins s σ H xs us Q I r h
  obtain ⟨a, ns, rfl, ha, hl, q⟩ := h
  obtain ⟨u, rfl, ru⟩ := vals1 r
  cases ru
  obtain ⟨its, rv, p, hz⟩ := I.list ha
  have hlen := rv.length
  rw [List.length_map] at hlen
  refine call_set_list hr.hd p.isList (ns := ns) (by simpa using ints_are rv) (by simp only [List.size_toArray]; have : scanBound = 4096 := rfl; omega) fun h' tk hS kp => ?_
  have e : (its.toArray).size = ns.length := by simp [hlen]
  rw [e, ded_first] at hS
  refine ⟨.ref s.heap.objs.size, _, I.laid (t' := tk) (fun b o eb => kp b o (Heap.lt_size eb) eb) (Nat.le_refl _) (show ObjOk X.prog X.w _ h' _ (.set _ _) from hS), rfl, q _ (I.hok.fresh (Nat.le_refl _))⟩
theorem call_lenS : CallR X (.builtin "len") (fun xs H Q => ∃ a S n, xs = [V.ref a] ∧ H a = some (.set S n) ∧ Q (.int n) H) := by
  intro pins s σ H xs us Q I r h
  obtain ⟨a, S, n, rfl, ha, q⟩ := h
  obtain ⟨u, rfl, ru⟩ := vals1 r
  cases ru
  obtain ⟨o, es, ep, t, ho, hex, hd, _, _, hb, hf, hn⟩ := (show s.heap.SetOf (intKind X.prog X.w) a S n from I.hok a _ ha)
  refine call_len_set ho hex hd hf (by have : scanBound = 4096 := rfl; omega) ?_
  rw [hn]
  exact ⟨.int n, H, I.tok _, ⟨_, rfl⟩, q⟩
end
theorem ded_nd {ns : List Int} (h : ns.Nodup) : (dedI ns).length = ns.length := by
  have key : ∀ (ns acc : List Int), ns.Nodup → (∀ x ∈ ns, x ∉ acc) → (ns.foldl step_dedup acc).length = acc.length + ns.length := by
    intro ns
    induction ns with
    | nil => intro acc _ _; rfl
    | cons a ns ih =>
      intro acc nd hx
      rw [List.nodup_cons] at nd
      have h0 : ¬ acc.any (· == a) = true := fun z => by
        obtain ⟨y, hy, e⟩ := List.any_eq_true.mp z
        rw [beq_iff_eq] at e
        exact hx a (by simp) (e ▸ hy)
      rw [List.foldl_cons, show step_dedup acc a = acc ++ [a] from by unfold step_dedup; rw [if_neg h0], ih _ nd.2, List.length_append]
      · simp only [List.length_cons, List.length_nil]; omega
      · intro x hx' hm
        rcases List.mem_append.mp hm with z | z
        · exact hx x (by simp [hx']) z
        · rw [List.mem_singleton.mp z] at hx'; exact nd.1 hx'
  unfold dedI
  rw [key ns [] h (fun _ _ z => nomatch z)]; simp
end L3

namespace L3
open PySem PySem.Spec PyProof.Rows L2
section
variable {c : TT} {e : TE} {i : Nat} {v v' : V} {t u r : TS} {D : Ends} {σ : L2.St} {H : Hp} {rt : VK} {bk ct : L2.St → Hp → Prop}
theorem c_if (Good : L2.St → Hp → Prop) (hr : ∀ σ' H', Good σ' H' → r D σ' H') (hc : (∀ σ' H', Good σ' H' → r D σ' H') → tIfS c t u { D with nx := r D } σ H) : tSeq (tIfS c t u) r D σ H := hc hr
theorem c_asg (Good : V → Hp → Prop) (hc : ∀ K : VK, (∀ v H', Good v H' → K v H') → e σ H K) (hr : ∀ v H', Good v H' → t D (σ.set i (some v)) H') : tSeq (tAsg e (gName i)) t D σ H := hc _ fun v H' g => hr v H' g
theorem c_next (h : t D σ H) : tNext ({ nx := t D, rt := rt, bk := bk, ct := ct } : Ends) σ H := h
theorem c_nx (h : t D σ H) : ({ nx := t D, rt := rt, bk := bk, ct := ct } : Ends).nx σ H := h
theorem c_test (Good : Bool → Hp → Prop) (hc : ∀ K : Bool → Hp → Prop, (∀ b H', Good b H' → K b H') → c σ H K) (hr : ∀ b H', Good b H' → if b = true then t { D with nx := r D } σ H' else u { D with nx := r D } σ H') : tSeq (tIfS c t u) r D σ H := hc _ hr
end
end L3

namespace L3
open PySem PySem.Spec PyProof.Rows L2
theorem comp_tupG {K : PySem.W.Frag} {a : Addr} {xs : List V} {g : TG} {te : TE} {Q : VK} {σ : L2.St} {H : Hp} (Pv : Nat → List V → L2.St → Hp → Prop) (h0 : Pv 0 [] σ H) (hl : ∀ i ys σ H, i ≤ xs.length → Pv i ys σ H → SqT K H a xs)
    (hs : ∀ i x ys σ H, xs[i]? = some x → Pv i ys σ H → g x σ H fun σ2 H3 => te σ2 H3 fun y H5 => ys.length < sizeLine ∧ Pv (i + 1) (ys ++ [y]) σ2 H5)
    (hd : ∀ ys σ H, Pv xs.length ys σ H → ∀ l, H l = none → Q (.ref l) (upd H l (.lst ys))) : CompW (Itt K a) σ H g tTrue te Q := comp_tup Pv h0 hl (fun i x ys σ H hx hp => hs i x ys σ H hx hp) hd
theorem smallR {n : Nat} (h : n ≤ 1000) : n < sizeLine := Nat.lt_of_le_of_lt h (by decide)
theorem comp_tupE {K : PySem.W.Frag} {a : Addr} {xs : List V} {g : TG} {tk tv : TE} {Q : VK} {σ : L2.St} {H : Hp} (Pv : Nat → List (List Key × V) → Hp → L2.St → Hp → Prop) (h0 : Pv 0 [] H σ H) (hl : ∀ i kvs Hb σ H, Pv i kvs Hb σ H → SqT K H a xs)
    (hs : ∀ i x kvs Hb σ H, xs[i]? = some x → Pv i kvs Hb σ H → g x σ H fun σ2 H3 => tk σ2 H3 fun y H5 => tv σ2 H5 fun v H6 => kvs.length < sizeLine ∧ ∃ b ks, y = .ref b ∧ H6 b = some (.tup (ks.map kV)) ∧ (∀ c xs, Hb c = some (.tup xs) → H6 c = some (.tup xs)) ∧ Pv (i + 1) (putK kvs ks v) H6 σ2 H6)
    (hd : ∀ kvs Hb σ H, Pv xs.length kvs Hb σ H → (∀ b xs, Hb b = some (.tup xs) → H b = some (.tup xs)) ∧ ∀ l, H l = none → Q (.ref l) (upd H l (.dT kvs))) : CompWE (Itt K a) σ H g tTrue tk tv Q := by
  refine ⟨fun i m kvs Hb σ H => m = xs.length - i ∧ i ≤ xs.length ∧ Pv i kvs Hb σ H, ⟨xs.length, by simp, Nat.zero_le _, h0⟩, ?_⟩
  rintro i m kvs Hb σ H ⟨rfl, hi, p⟩
  have q := hl i kvs Hb σ H p
  by_cases hlt : i < xs.length
  · refine .inr ⟨⟨xs, xs[i], q, List.getElem?_eq_getElem hlt⟩, Pv (i + 1), fun zs Hc σ' H' p' => ⟨xs.length - (i + 1), by omega, rfl, hlt, p'⟩, fun x H' y => ?_⟩
    obtain ⟨rfl, y⟩ := y
    exact hs i x kvs Hb σ _ (y xs q) p
  · have e : i = xs.length := by omega
    obtain ⟨h1, h2⟩ := hd kvs Hb σ H (e ▸ p)
    exact .inl ⟨⟨xs, q, by omega⟩, h1, h2⟩
def keyR (l b : Nat) : List Key := [.inl (l : Int), .inl (b : Int)]
theorem keyR_inj {l b l' b' : Nat} (h : keyR l b = keyR l' b') : l = l' ∧ b = b' := by
  unfold keyR at h
  injection h with h1 h2
  injection h2 with h2 _
  injection h1 with h1
  injection h2 with h2
  exact ⟨by omega, by omega⟩
structure TabR {α : Type} (kvs : List (List Key × V)) (n m : Nat) (f : Nat → Nat → Option α) (R : V → α → Prop) : Prop where
  keys : ∀ p ∈ kvs, ∃ l b x, p.1 = keyR l b ∧ l < n ∧ b < m ∧ f l b = some x ∧ R p.2 x
  nd : (kvs.map (·.1)).Nodup
  all : ∀ l b, l < n → b < m → f l b ≠ none → (valV kvs (keyR l b)).isSome = true
theorem val_mem {kvs : List (List Key × V)} {k : List Key} {v : V} (h : valV kvs k = some v) : (k, v) ∈ kvs := by
  unfold valV at h
  cases e : kvs.find? fun kv => decide (kv.1 = k) with
  | none => rw [e] at h; cases h
  | some p =>
    rw [e] at h
    have h2 : p.2 = v := Option.some.inj h
    have h0 : decide (p.1 = k) = true := by have z := List.find?_some e; exact z
    have h1 := of_decide_eq_true h0
    have h3 := List.mem_of_find?_eq_some e
    rw [← h2, ← h1]; exact h3
theorem TabR.val {α : Type} {kvs : List (List Key × V)} {n m : Nat} {f : Nat → Nat → Option α} {R : V → α → Prop} (t : TabR kvs n m f R) {l b : Nat} (hl : l < n) (hb : b < m) :
    match f l b with | some x => ∃ v, valV kvs (keyR l b) = some v ∧ R v x | none => valV kvs (keyR l b) = none := by
  cases hv : valV kvs (keyR l b) with
  | some v =>
    obtain ⟨l', b', x, e, _, _, hf, hR⟩ := t.keys _ (val_mem hv)
    obtain ⟨rfl, rfl⟩ := keyR_inj e
    rw [hf]
    exact ⟨v, rfl, hR⟩
  | none =>
    cases hf : f l b with
    | none => rfl
    | some x =>
      have := t.all l b hl hb (by rw [hf]; exact fun z => nomatch z)
      rw [hv] at this; cases this
theorem put_keys {kvs : List (List Key × V)} {k : List Key} {v : V} : ∀ p ∈ putK kvs k v, p = (k, v) ∨ (p ∈ kvs ∧ p.1 ≠ k) := by
  intro p hp
  unfold putK at hp
  split at hp
  · obtain ⟨q, hq, rfl⟩ := List.mem_map.mp hp
    by_cases c : q.1 = k
    · left; rw [if_pos c]; exact Prod.ext c rfl
    · right; rw [if_neg c]; exact ⟨hq, c⟩
  · rename_i h
    rcases List.mem_append.mp hp with z | z
    · by_cases c : p.1 = k
      · exfalso; exact h (List.any_eq_true.mpr ⟨p, z, decide_eq_true c⟩)
      · exact .inr ⟨z, c⟩
    · exact .inl (List.mem_singleton.mp z)
theorem put_nd {kvs : List (List Key × V)} {k : List Key} {v : V} (h : (kvs.map (·.1)).Nodup) : ((putK kvs k v).map (·.1)).Nodup := by
  cases e : valV kvs k with
  | none => exact nd_putK v h e
  | some u =>
    have : (putK kvs k v).map (·.1) = kvs.map (·.1) := by
      unfold putK
      rw [if_pos (by rw [valV_any, e]; rfl), List.map_map]
      refine List.map_congr_left fun p _ => ?_
      show (if p.1 = k then (p.1, v) else p).1 = p.1
      split <;> rfl
    rw [this]; exact h
theorem TabR.put {α : Type} {kvs : List (List Key × V)} {n m : Nat} {f g : Nat → Nat → Option α} {R : V → α → Prop} (t : TabR kvs n m f R) {l b : Nat} {v : V} {x : α} (hl : l < n) (hb : b < m) (hR : R v x) (hx : g l b = some x) (hg : ∀ l' b', ¬ (l' = l ∧ b' = b) → g l' b' = f l' b') : TabR (putK kvs (keyR l b) v) n m g R where
  keys := fun p hp => by
    rcases put_keys p hp with rfl | ⟨hm, hne⟩
    · exact ⟨l, b, x, rfl, hl, hb, hx, hR⟩
    · obtain ⟨l', b', y, e, h1, h2, h3, h4⟩ := t.keys p hm
      refine ⟨l', b', y, e, h1, h2, ?_, h4⟩
      rw [hg l' b' fun z => hne (by rw [e, z.1, z.2])]; exact h3
  nd := put_nd t.nd
  all := fun l' b' h1 h2 h3 => by
    rw [valV_put]
    by_cases c : keyR l' b' = keyR l b
    · rw [if_pos c]; rfl
    · rw [if_neg c]
      refine t.all l' b' h1 h2 ?_
      rw [← hg l' b' fun z => c (by rw [z.1, z.2])]; exact h3
theorem TabR.nil {α : Type} {n m : Nat} {R : V → α → Prop} : TabR [] n m (fun _ _ => (none : Option α)) R := ⟨(fun _ h => nomatch h), List.nodup_nil, fun _ _ _ _ h => absurd rfl h⟩
theorem TabR.imp {α : Type} {kvs : List (List Key × V)} {n m : Nat} {f : Nat → Nat → Option α} {R R' : V → α → Prop} (t : TabR kvs n m f R) (h : ∀ v x, R v x → R' v x) : TabR kvs n m f R' :=
  ⟨fun p hp => by obtain ⟨l, b, x, e, h1, h2, h3, h4⟩ := t.keys p hp; exact ⟨l, b, x, e, h1, h2, h3, h _ _ h4⟩, t.nd, t.all⟩
def TabAt {α : Type} (H : Hp) (d : Addr) (n m : Nat) (f : Nat → Nat → Option α) (R : V → α → Prop) : Prop := ∃ kvs, Rd H d (.dT kvs) ∧ TabR kvs n m f R ∧ kvs.length ≤ 16
def LvAt (K : PySem.W.Frag) (H : Hp) (k m : Nat) (rows : List (List Int)) (ks : List Ask) (s : Nat) (d : Addr) : Prop := TabAt H d (2 ^ k) m (lvR k rows ks s) (DeedAt K H)
def kpR (k : Nat) (rows : List (List Int)) (ks : List Ask) (s l b : Nat) : Option Deed := match lvR k rows ks (s - 1) (x0R k rows s l) b, lvR k rows ks (s - 1) (x1R k rows s l) b with
  | some d, some _ => some d
  | _, _ => none
def KpAt (K : PySem.W.Frag) (H : Hp) (k m : Nat) (rows : List (List Int)) (ks : List Ask) (s : Nat) (d : Addr) : Prop :=
  ∃ kvs, Rd H d (.dT kvs) ∧ kvs.length ≤ 16 ∧ (∀ p ∈ kvs, ∃ l b x, p.1 = keyR (nN k s l) b ∧ l < 2 ^ k ∧ b < m ∧ kpR k rows ks s l b = some x ∧ DeedAt K H p.2 x) ∧ (kvs.map (·.1)).Nodup ∧
    ∀ l b, l < 2 ^ k → b < m → kpR k rows ks s l b ≠ none → (valV kvs (keyR (nN k s l) b)).isSome = true
theorem Rd.growR {m : List Addr} {H H' : Hp} {d : Addr} {u : HO} (g : Grow m H H') (hm : d ∉ m ∨ ∃ o, H d = some (.frz o u)) (h : Rd H d u) : Rd H' d u := by
  rcases hm with hm | ⟨o, ho⟩
  · rcases h with h | ⟨o, h⟩
    · exact .inl (g.keep _ _ hm h)
    · exact .inr ⟨o, g.frz _ _ _ h⟩
  · exact .inr ⟨o, g.frz _ _ _ ho⟩
theorem LvAt.grow {K : PySem.W.Frag} {m' : List Addr} {H H' : Hp} {k m : Nat} {rows : List (List Int)} {ks : List Ask} {s : Nat} {d : Addr} (g : Grow m' H H') (hm : d ∉ m') (h : LvAt K H k m rows ks s d) : LvAt K H' k m rows ks s d := by
  obtain ⟨kvs, h1, h2, h3⟩ := h
  exact ⟨kvs, Rd.growR g (.inl hm) h1, h2.imp fun v x hv => g.deed hv, h3⟩
theorem KpAt.grow {K : PySem.W.Frag} {m' : List Addr} {H H' : Hp} {k m : Nat} {rows : List (List Int)} {ks : List Ask} {s : Nat} {d : Addr} (g : Grow m' H H') (hm : d ∉ m') (h : KpAt K H k m rows ks s d) : KpAt K H' k m rows ks s d := by
  obtain ⟨kvs, h1, h2, h3, h4, h5⟩ := h
  exact ⟨kvs, Rd.growR g (.inl hm) h1, h2, fun p hp => by obtain ⟨l, b, x, e, a1, a2, a3, a4⟩ := h3 p hp; exact ⟨l, b, x, e, a1, a2, a3, g.deed a4⟩, h4, h5⟩
theorem xfig_facts : ∀ k : Fin 5, ∀ s : Fin 5, 1 ≤ s.val → s.val ≤ k.val → ∀ l : Fin 16, l.val < 2 ^ k.val → ∀ t : Fin 5, 1 ≤ t.val → t.val ≤ k.val → t.val ≠ s.val → figI k.val t.val (xN k.val s.val l.val) = figI k.val t.val l.val := by decide +kernel
theorem kp_same {k : Nat} {rows : List (List Int)} {ks : List Ask} {s l l' b : Nat} (k4 : k ≤ 4) (hs : SetOk k rows) (s1 : 1 ≤ s) (sk : s ≤ k) (hl : l < 2 ^ k) (hl' : l' < 2 ^ k) (e : nN k s l = nN k s l') : kpR k rows ks s l b = kpR k rows ks s l' b := by
  have key : x0R k rows s l = x0R k rows s l' ∧ x1R k rows s l = x1R k rows s l' := by
    refine x_same k4 hs s1 sk hl hl' fun t t1 tk hne => ?_
    rcases twoF k4 s1 sk hl' hl e.symm with rfl | rfl
    · rfl
    · have p := pow16 k4
      have := xfig_facts ⟨k, by omega⟩ ⟨s, by omega⟩ s1 sk ⟨l', by omega⟩ hl' ⟨t, by omega⟩ t1 tk (by simpa using hne)
      exact this
  unfold kpR
  rw [key.1, key.2]
theorem side_facts : ∀ k : Fin 5, ∀ b : Fin 16, Builtin.bitAnd (b.val : Int) (1 * 2 ^ ((k.val : Int)).toNat - 1) = ((b.val % 2 ^ k.val : Nat) : Int) := by decide +kernel
theorem side_and {k b : Nat} (k4 : k ≤ 4) (hb : b < 16) : Builtin.bitAnd (b : Int) (1 * 2 ^ ((k : Int)).toNat - 1) = ((b % 2 ^ k : Nat) : Int) := side_facts ⟨k, by omega⟩ ⟨b, hb⟩
theorem allA_len41 {K : PySem.W.Frag} {H : Hp} : ∀ {xs : List V} {ks : List Ask}, AllA K H xs ks → xs.length = ks.length
  | [], [], _ => rfl
  | _ :: _, _ :: _, ⟨_, t⟩ => by rw [List.length_cons, List.length_cons, allA_len41 t]
  | [], _ :: _, h => h.elim
  | _ :: _, [], h => h.elim
theorem hand_nat41 {k : Nat} {i : Int} (h0 : 0 ≤ i) (h1 : i < 2 ^ k) : i.toNat < 2 ^ k := by
  have e : ((2 ^ k : Nat) : Int) = 2 ^ k := by rw [Int.natCast_pow]; rfl
  omega
theorem RndOk.ask {k m : Nat} {ks : List Ask} (R : RndOk k m ks) (k4 : k ≤ 4) : ∀ a ∈ ks, AskOk m a := fun a ha => by
  have h := R.hand a ha
  have p := pow16 k4
  have := hand_nat41 h.1 h.2
  exact ⟨h.1, by omega, (R.box a ha).1, (R.box a ha).2, R.ok a ha⟩
structure Beh (K : PySem.W.Frag) (H : Hp) (k m : Nat) (rows : List (List Int)) (ks : List Ask) (st : Nat) (kvs : List (List Key × V)) (i : Nat) (bk kk : List (List Key × V)) : Prop where
  b1 : ∀ p ∈ bk, ∃ l b x, p.1 = keyR l b ∧ l < 2 ^ k ∧ b < m ∧ lvR k rows ks st l b = some x ∧ DeedAt K H p.2 x
  b2 : (bk.map (·.1)).Nodup
  b3 : ∀ j l b v, j < i → kvs[j]? = some (keyR l b, v) → (valV bk (keyR (outR k st l b) b)).isSome = true
  bl : bk.length ≤ i
  k1 : ∀ p ∈ kk, ∃ l b x, p.1 = keyR (nN k st l) b ∧ l < 2 ^ k ∧ b < m ∧ kpR k rows ks st l b = some x ∧ DeedAt K H p.2 x
  k2 : (kk.map (·.1)).Nodup
  k3 : ∀ j l b v, j < i → kvs[j]? = some (keyR l b, v) → kpR k rows ks st l b ≠ none → (valV kk (keyR (nN k st l) b)).isSome = true
  kl : kk.length ≤ i
section
variable {K : PySem.W.Frag} {H H' : Hp} {k m : Nat} {rows : List (List Int)} {ks : List Ask} {st : Nat} {kvs : List (List Key × V)} {i : Nat} {bk kk : List (List Key × V)}
theorem Beh.grow {m' : List Addr} (g : Grow m' H H') (B : Beh K H k m rows ks st kvs i bk kk) : Beh K H' k m rows ks st kvs i bk kk :=
  ⟨fun p hp => by obtain ⟨l, b, x, e, h1, h2, h3, h4⟩ := B.b1 p hp; exact ⟨l, b, x, e, h1, h2, h3, g.deed h4⟩, B.b2, B.b3, B.bl, fun p hp => by obtain ⟨l, b, x, e, h1, h2, h3, h4⟩ := B.k1 p hp; exact ⟨l, b, x, e, h1, h2, h3, g.deed h4⟩, B.k2, B.k3, B.kl⟩
theorem Beh.nil : Beh K H k m rows ks st kvs 0 [] [] := ⟨(fun _ h => nomatch h), List.nodup_nil, (fun _ _ _ _ h => absurd h (Nat.not_lt_zero _)), Nat.le_refl _, (fun _ h => nomatch h), List.nodup_nil, (fun _ _ _ _ h => absurd h (Nat.not_lt_zero _)), Nat.le_refl _⟩
theorem isSome_put {bk : List (List Key × V)} {k j : List Key} {v : V} (h : (valV bk j).isSome = true) : (valV (putK bk k v) j).isSome = true := by
  rw [valV_put]
  split
  · rfl
  · exact h
theorem isSome_put' {bk : List (List Key × V)} {k : List Key} {v : V} : (valV (putK bk k v) k).isSome = true := by rw [valV_put, if_pos rfl]; rfl
theorem Beh.one {l b : Nat} {v w : V} {x : Deed} (B : Beh K H k m rows ks st kvs i bk kk) (hp : kvs[i]? = some (keyR l b, v)) (ho : outR k st l b < 2 ^ k) (hb : b < m) (hx : lvR k rows ks st (outR k st l b) b = some x) (hd : DeedAt K H w x) (hk : kpR k rows ks st l b = none) :
    Beh K H k m rows ks st kvs (i + 1) (putK bk (keyR (outR k st l b) b) w) kk where
  b1 := fun p hp' => by
    rcases put_keys p hp' with rfl | ⟨hm, _⟩
    · exact ⟨_, b, x, rfl, ho, hb, hx, hd⟩
    · exact B.b1 p hm
  b2 := put_nd B.b2
  b3 := fun j l' b' v' hj hj' => by
    by_cases c : j < i
    · exact isSome_put (B.b3 j l' b' v' c hj')
    · have e : j = i := by omega
      rw [e, hp] at hj'
      obtain ⟨rfl, rfl⟩ := keyR_inj (congrArg Prod.fst (Option.some.inj hj'))
      exact isSome_put'
  bl := Nat.le_trans (length_putK ..) (Nat.succ_le_succ B.bl)
  k1 := B.k1
  k2 := B.k2
  k3 := fun j l' b' v' hj hj' hne => by
    by_cases c : j < i
    · exact B.k3 j l' b' v' c hj' hne
    · have e : j = i := by omega
      rw [e, hp] at hj'
      obtain ⟨rfl, rfl⟩ := keyR_inj (congrArg Prod.fst (Option.some.inj hj'))
      exact absurd hk hne
  kl := Nat.le_succ_of_le B.kl
theorem Beh.two {l b : Nat} {v w w2 : V} {x y : Deed} (B : Beh K H k m rows ks st kvs i bk kk) (hp : kvs[i]? = some (keyR l b, v)) (hl : l < 2 ^ k) (ho : outR k st l b < 2 ^ k) (hb : b < m) (hx : lvR k rows ks st (outR k st l b) b = some x) (hd : DeedAt K H w x) (hk : kpR k rows ks st l b = some y) (hy : DeedAt K H w2 y) :
    Beh K H k m rows ks st kvs (i + 1) (putK bk (keyR (outR k st l b) b) w) (putK kk (keyR (nN k st l) b) w2) where
  b1 := fun p hp' => by
    rcases put_keys p hp' with rfl | ⟨hm, _⟩
    · exact ⟨_, b, x, rfl, ho, hb, hx, hd⟩
    · exact B.b1 p hm
  b2 := put_nd B.b2
  b3 := fun j l' b' v' hj hj' => by
    by_cases c : j < i
    · exact isSome_put (B.b3 j l' b' v' c hj')
    · have e : j = i := by omega
      rw [e, hp] at hj'
      obtain ⟨rfl, rfl⟩ := keyR_inj (congrArg Prod.fst (Option.some.inj hj'))
      exact isSome_put'
  bl := Nat.le_trans (length_putK ..) (Nat.succ_le_succ B.bl)
  k1 := fun p hp' => by
    rcases put_keys p hp' with rfl | ⟨hm, _⟩
    · exact ⟨l, b, y, rfl, hl, hb, hk, hy⟩
    · exact B.k1 p hm
  k2 := put_nd B.k2
  k3 := fun j l' b' v' hj hj' hne => by
    by_cases c : j < i
    · exact isSome_put (B.k3 j l' b' v' c hj' hne)
    · have e : j = i := by omega
      rw [e, hp] at hj'
      obtain ⟨rfl, rfl⟩ := keyR_inj (congrArg Prod.fst (Option.some.inj hj'))
      exact isSome_put'
  kl := Nat.le_trans (length_putK ..) (Nat.succ_le_succ B.kl)
theorem mem_val {kvs : List (List Key × V)} {k : List Key} (h : (valV kvs k).isSome = true) : ∃ j v, kvs[j]? = some (k, v) ∧ j < kvs.length := by
  obtain ⟨v, hv⟩ := Option.isSome_iff_exists.mp h
  obtain ⟨j, hj, e⟩ := List.getElem_of_mem (val_mem hv)
  exact ⟨j, v, by rw [List.getElem?_eq_getElem hj, e], hj⟩
theorem Beh.done {b0 k0 : Addr} (k4 : k ≤ 4) (hs : SetOk k rows) (s1 : 1 ≤ st) (sk : st ≤ k) (tab : TabR kvs (2 ^ k) m (lvR k rows ks (st - 1)) (DeedAt K H)) (kl : kvs.length ≤ 16) (B : Beh K H k m rows ks st kvs kvs.length bk kk) (hB : H b0 = some (.dT bk)) (hK : H k0 = some (.dT kk)) :
    LvAt K H k m rows ks st b0 ∧ KpAt K H k m rows ks st k0 := by
  have es : st = st - 1 + 1 := by omega
  refine ⟨⟨bk, .inl hB, ⟨B.b1, B.b2, fun l b hl hb hne => ?_⟩, Nat.le_trans B.bl kl⟩, kk, .inl hK, Nat.le_trans B.kl kl, B.k1, B.k2, fun l b hl hb hne => ?_⟩
  · rw [es] at hne
    obtain ⟨x, hx, hox, hxn⟩ := lv_src k4 hs (by omega) hl hne
    obtain ⟨j, v, hj, hjl⟩ := mem_val (tab.all x b hx hb hxn)
    have := B.b3 j x b v hjl hj
    rw [← es] at hox
    rw [hox] at this; exact this
  · have X := xF (rows := rows) k4 hs s1 sk hl
    have nx : nN k st (x0R k rows st l) = nN k st l := nN_eq s1 sk fun t _ tk hne => X.off0 t tk hne
    have h0 : lvR k rows ks (st - 1) (x0R k rows st l) b ≠ none := by
      intro z
      unfold kpR at hne
      rw [z] at hne
      exact hne rfl
    obtain ⟨j, v, hj, hjl⟩ := mem_val (tab.all _ b X.lt0 hb h0)
    have := B.k3 j _ b v hjl hj (by rw [kp_same k4 hs s1 sk X.lt0 hl nx]; exact hne)
    rw [nx] at this; exact this
end
theorem Grow.setR {m : List Addr} {H : Hp} {d : Addr} {kvs kvs' : List (List Key × V)} (h : H d = some (.dT kvs)) (hm : d ∈ m) : Grow m H (upd H d (.dT kvs')) :=
  ⟨fun b u hb q => by rw [upd_ne (show b ≠ d from fun z => hb (by rw [z]; exact hm))]; exact q, fun b zs q => by rw [upd_ne (fun z => by subst z; rw [h] at q; cases q)]; exact q, fun b u v q => by rw [upd_ne (fun z => by subst z; rw [h] at q; cases q)]; exact q⟩
theorem dget_fz {H : Hp} {d t : Addr} {o : Obj} {kvs : List (List Key × V)} {l b : Nat} (h : H d = some (.frz o (.dT kvs))) (ht : H t = some (.tup [.int l, .int b])) : DGet H d (.ref t) (valV kvs (keyR l b)) := .inr ⟨kvs, keyR l b, t, .inr ⟨o, h⟩, rfl, ht, rfl⟩
theorem dget_rd {H : Hp} {d t : Addr} {kvs : List (List Key × V)} {l b : Nat} (h : Rd H d (.dT kvs)) (ht : H t = some (.tup [.int l, .int b])) : DGet H d (.ref t) (valV kvs (keyR l b)) := .inr ⟨kvs, keyR l b, t, h, rfl, ht, rfl⟩
def sp_side41 (_ : PySem.W.Frag) : Sp := sp2 fun x y H Q => ∃ (k b : Nat), x = .int k ∧ y = .int b ∧ k ≤ 4 ∧ b < 16 ∧ Q (.int ((b % 2 ^ k : Nat) : Int)) H
def sp_need_round (K : PySem.W.Frag) : Sp := sp3 fun x y z H Q => ∃ (k : Nat) (b : List Int) (ks : List Ask), x = .int k ∧ k ≤ 4 ∧ BoardAt K H y b ∧ 1 ≤ b.length ∧ b.length ≤ 16 ∧ AsksAt K H z ks ∧ ks.length ≤ 16 ∧ RndOk k b.length ks ∧ ∀ H', Grow [] H H' → Q .non H'
def sp_pass41 (K : PySem.W.Frag) : Sp := sp4 fun x y z u H Q => ∃ (k st m : Nat) (d : Addr) (rows : List (List Int)) (ks : List Ask), x = .int k ∧ y = .int st ∧ z = .ref d ∧ k ≤ 4 ∧ 1 ≤ st ∧ st ≤ k ∧ m ≤ 16 ∧ LvAt K H k m rows ks (st - 1) d ∧ RowsAt K H u rows ∧ SetOk k rows ∧ RndOk k m ks ∧
  ∀ r b' kp H', Grow [d] H H' → H b' = none → H kp = none → b' ≠ kp → SqT K H' r [.ref b', .ref kp] → LvAt K H' k m rows ks st b' → KpAt K H' k m rows ks st kp → LvAt K H' k m rows ks (st - 1) d → Q (.ref r) H'
structure NetR (K : PySem.W.Frag) (H : Hp) (k m : Nat) (rows : List (List Int)) (ks : List Ask) (ds kps : List Addr) : Prop where
  lv : ∀ s d, ds[s]? = some d → LvAt K H k m rows ks s d
  kp : ∀ s d, kps[s]? = some d → KpAt K H k m rows ks (s + 1) d
  nd : (ds ++ kps).Nodup
theorem LvAt.isD {K : PySem.W.Frag} {H : Hp} {k m : Nat} {rows : List (List Int)} {ks : List Ask} {s : Nat} {d : Addr} (h : LvAt K H k m rows ks s d) : ∃ kvs, Rd H d (.dT kvs) := by obtain ⟨kvs, h1, _⟩ := h; exact ⟨kvs, h1⟩
theorem KpAt.isD {K : PySem.W.Frag} {H : Hp} {k m : Nat} {rows : List (List Int)} {ks : List Ask} {s : Nat} {d : Addr} (h : KpAt K H k m rows ks s d) : ∃ kvs, Rd H d (.dT kvs) := by obtain ⟨kvs, h1, _⟩ := h; exact ⟨kvs, h1⟩
theorem NetR.isD {K : PySem.W.Frag} {H : Hp} {k m : Nat} {rows : List (List Int)} {ks : List Ask} {ds kps : List Addr} (N : NetR K H k m rows ks ds kps) {d : Addr} (h : d ∈ ds ++ kps) : ∃ kvs, Rd H d (.dT kvs) := by
  rcases List.mem_append.mp h with z | z
  · obtain ⟨i, hi, rfl⟩ := List.getElem_of_mem z; exact (N.lv i _ (List.getElem?_eq_getElem hi)).isD
  · obtain ⟨i, hi, rfl⟩ := List.getElem_of_mem z; exact (N.kp i _ (List.getElem?_eq_getElem hi)).isD
theorem Rd.ne_none {H : Hp} {d : Addr} {u : HO} (h : Rd H d u) : H d ≠ none := by rcases h with z | ⟨o, z⟩ <;> rw [z] <;> exact fun z => nomatch z
theorem Rd.ne_lst {H : Hp} {d l : Addr} {kvs : List (List Key × V)} {xs : List V} (h : Rd H d (.dT kvs)) (hl : H l = some (.lst xs)) : d ≠ l := fun e => by
  rw [e] at h
  rcases h with z | ⟨o, z⟩ <;> rw [hl] at z <;> cases z
theorem NetR.grow {K : PySem.W.Frag} {H H' : Hp} {m' : List Addr} {k m : Nat} {rows : List (List Int)} {ks : List Ask} {ds kps : List Addr} (g : Grow m' H H') (hm : ∀ d ∈ ds ++ kps, d ∉ m') (N : NetR K H k m rows ks ds kps) : NetR K H' k m rows ks ds kps :=
  ⟨fun s d h => (N.lv s d h).grow g (hm d (List.mem_append_left _ (List.mem_of_getElem? h))), fun s d h => (N.kp s d h).grow g (hm d (List.mem_append_right _ (List.mem_of_getElem? h))), N.nd⟩
def sp_pnet41 (K : PySem.W.Frag) : Sp := sp3 fun x y z H Q => ∃ (k m : Nat) (rows : List (List Int)) (ks : List Ask), x = .int k ∧ k ≤ 4 ∧ m ≤ 16 ∧ ks.length ≤ 16 ∧ AsksAt K H y ks ∧ RowsAt K H z rows ∧ SetOk k rows ∧ RndOk k m ks ∧
  ∀ r lL lS ds kps H', Grow [] H H' → SqT K H' r [.ref lL, .ref lS] → H' lL = some (.lst (ds.map V.ref)) → H' lS = some (.lst (kps.map V.ref)) → ds.length = k + 1 → kps.length = k → NetR K H' k m rows ks ds kps → (∀ d ∈ ds ++ kps, H d = none) → Q (.ref r) H'
def lv0K (ks : List Ask) (vs : List V) : List (List Key × V) := (ks.zip vs).map fun p => (keyR p.1.hand.toNat p.1.box.toNat, p.2)
theorem key_of41 {a : Ask} (h0 : 0 ≤ a.hand) (h1 : 0 ≤ a.box) : (keyR a.hand.toNat a.box.toNat).map kV = [.int a.hand, .int a.box] := by
  show [V.int ((a.hand.toNat : Nat) : Int), V.int ((a.box.toNat : Nat) : Int)] = _
  rw [Int.toNat_of_nonneg h0, Int.toNat_of_nonneg h1]
theorem find_of41 {ks : List Ask} {a : Ask} (nd : (ks.map (·.hand)).Nodup) (ha : a ∈ ks) : (ks.find? fun c => decide (c.hand = a.hand ∧ c.box = a.box)) = some a := by
  induction ks with
  | nil => cases ha
  | cons c ks ih =>
    rw [List.map_cons, List.nodup_cons] at nd
    rw [List.find?_cons]
    rcases List.mem_cons.mp ha with rfl | ha
    · rw [decide_eq_true ⟨rfl, rfl⟩]
    · have : ¬ (c.hand = a.hand ∧ c.box = a.box) := fun z => nd.1 (List.mem_map.mpr ⟨a, ha, z.1.symm⟩)
      rw [decide_eq_false this]
      exact ih nd.2 ha
theorem lv0_tab {K : PySem.W.Frag} {H : Hp} {k m : Nat} {rows : List (List Int)} {ks : List Ask} {vs : List V} (R : RndOk k m ks) (hl : vs.length = ks.length) (hv : ∀ (i : Nat) (a : Ask) (v : V), ks[i]? = some a → vs[i]? = some v → DeedAt K H v a.deed) : TabR (lv0K ks vs) (2 ^ k) m (lvR k rows ks 0) (DeedAt K H) := by
  have ek : (lv0K ks vs).map (·.1) = ks.map fun a => keyR a.hand.toNat a.box.toNat := by
    unfold lv0K
    rw [List.map_map]
    refine List.ext_getElem? fun i => ?_
    rw [List.getElem?_map, List.getElem?_map]
    by_cases h : i < ks.length
    · rw [List.getElem?_eq_getElem (show i < (ks.zip vs).length by rw [List.length_zip]; omega), List.getElem?_eq_getElem h, List.getElem_zip]; rfl
    · rw [List.getElem?_eq_none (by rw [List.length_zip]; omega), List.getElem?_eq_none (by omega)]; rfl
  refine ⟨fun p hp => ?_, ?_, fun l b hlt hb hne => ?_⟩
  · unfold lv0K at hp
    obtain ⟨⟨a, v⟩, hm, rfl⟩ := List.mem_map.mp hp
    obtain ⟨i, hi, e⟩ := List.getElem_of_mem hm
    rw [List.getElem_zip] at e
    have hi' : i < ks.length := by rw [List.length_zip] at hi; omega
    have hiv : i < vs.length := by omega
    have ea : ks[i] = a := congrArg Prod.fst e
    have ev : vs[i] = v := congrArg Prod.snd e
    have ha : a ∈ ks := ea ▸ List.getElem_mem hi'
    have hh := R.hand a ha
    have hbx := R.box a ha
    refine ⟨a.hand.toNat, a.box.toNat, a.deed, rfl, hand_nat41 hh.1 hh.2, by omega, ?_, hv i a v (by rw [List.getElem?_eq_getElem hi', ea]) (by rw [List.getElem?_eq_getElem hiv, ev])⟩
    show (ks.find? fun c => decide (c.hand = ((a.hand.toNat : Nat) : Int) ∧ c.box = ((a.box.toNat : Nat) : Int))).map (·.deed) = _
    rw [Int.toNat_of_nonneg hh.1, Int.toNat_of_nonneg hbx.1, find_of41 R.nd ha]; rfl
  · rw [ek]
    have nd := R.nd
    unfold List.Nodup at nd ⊢
    rw [List.pairwise_map] at nd ⊢
    refine nd.imp_of_mem fun {a c} ha hc hne e => hne ?_
    have := keyR_inj e
    have h1 := (R.hand a ha).1
    have h2 := (R.hand c hc).1
    omega
  · have hne' : (ks.find? fun c => decide (c.hand = (l : Int) ∧ c.box = (b : Int))).map (·.deed) ≠ none := hne
    cases hf : ks.find? fun c => decide (c.hand = (l : Int) ∧ c.box = (b : Int)) with
    | none => rw [hf] at hne'; exact absurd rfl hne'
    | some a =>
      have ha := List.mem_of_find?_eq_some hf
      have hd : decide (a.hand = (l : Int) ∧ a.box = (b : Int)) = true := by have z := List.find?_some hf; exact z
      obtain ⟨h1, h2⟩ := of_decide_eq_true hd
      have hm : keyR l b ∈ (lv0K ks vs).map (·.1) := by
        rw [ek]
        exact List.mem_map.mpr ⟨a, ha, by rw [h1, h2]; rfl⟩
      cases hv' : valV (lv0K ks vs) (keyR l b) with
      | none => exact absurd hm (valV_not hv')
      | some v => rfl
theorem lv0_len {ks : List Ask} {vs : List V} : (lv0K ks vs).length = min ks.length vs.length := by unfold lv0K; rw [List.length_map, List.length_zip]
theorem lv0_put {k m n : Nat} {ks : List Ask} {vs : List V} {v : V} {a : Ask} (R : RndOk k m ks) (ha : ks[n]? = some a) (vl : vs.length = n) : putK (lv0K (ks.take n) vs) (keyR a.hand.toNat a.box.toNat) v = lv0K (ks.take (n + 1)) (vs ++ [v]) := by
  have hn := (List.getElem?_eq_some_iff.mp ha).1
  rw [putK_new]
  · unfold lv0K
    rw [List.take_succ, ha, List.zip_append (by rw [List.length_take]; omega), List.map_append]; rfl
  · cases hv : valV (lv0K (ks.take n) vs) (keyR a.hand.toNat a.box.toNat) with
    | none => rfl
    | some u =>
      exfalso
      have := val_mem hv
      unfold lv0K at this
      obtain ⟨⟨c, w⟩, hm, e⟩ := List.mem_map.mp this
      have hc : c ∈ ks.take n := (List.of_mem_zip hm).1
      obtain ⟨h1, _⟩ := keyR_inj (congrArg Prod.fst e)
      have hck := List.mem_of_mem_take hc
      have ha' := List.mem_of_getElem? ha
      have e1 : c.hand = a.hand := by have := (R.hand c hck).1; have := (R.hand a ha').1; have h1' : c.hand.toNat = a.hand.toNat := h1; omega
      obtain ⟨j, hj, ej⟩ := List.getElem_of_mem hc
      rw [List.length_take] at hj
      rw [List.getElem_take] at ej
      have nd := R.nd
      have h2 : (ks.map (·.hand))[j]'(by rw [List.length_map]; omega) = (ks.map (·.hand))[n]'(by rw [List.length_map]; omega) := by
        rw [List.getElem_map, List.getElem_map, ej, e1]
        rw [List.getElem?_eq_getElem hn] at ha
        rw [Option.some.inj ha]
      have := (List.getElem_inj nd).mp h2
      omega
theorem snoc_ofA {α : Type} {xs : List α} (h : xs ≠ []) : ∃ ys y, xs = ys ++ [y] := ⟨xs.dropLast, xs.getLast h, (List.dropLast_concat_getLast h).symm⟩
theorem nodup_four {as bs : List Addr} {b c : Addr} (h : (as ++ bs).Nodup) (h1 : ∀ e ∈ as ++ bs, e ≠ b) (h2 : ∀ e ∈ as ++ bs, e ≠ c) (h3 : b ≠ c) : ((as ++ [b]) ++ (bs ++ [c])).Nodup := by
  have p : ((as ++ [b]) ++ (bs ++ [c])).Perm (b :: c :: (as ++ bs)) := by
    have e1 : (as ++ [b]) ++ (bs ++ [c]) = as ++ (b :: (bs ++ [c])) := by simp
    rw [e1]
    refine List.perm_middle.trans (List.Perm.cons b ?_)
    rw [← List.append_assoc]
    exact List.perm_append_singleton c (as ++ bs)
  refine p.nodup_iff.mpr ?_
  rw [List.nodup_cons, List.nodup_cons]
  refine ⟨fun z => ?_, fun z => h2 c z rfl, h⟩
  rcases List.mem_cons.mp z with e | e
  · exact h3 e
  · exact h1 b e rfl
theorem lastR {ys : List Addr} {v : Addr} : atI ((ys ++ [v]).map V.ref) (-1) = some (V.ref v) := by
  refine ixGet (j := ys.length) ?_ ?_
  · unfold ixN
    rw [List.length_map, List.length_append, if_neg (by decide), if_pos (by show -((ys.length + 1 : Nat) : Int) ≤ -1; omega)]
    congr 1
    show (((ys.length + 1 : Nat) : Int) + -1).toNat = _
    omega
  · rw [List.map_append, ← List.length_map (f := V.ref) (as := ys)]
    exact List.getElem?_concat_length
end L3

namespace L3
open PySem PySem.Spec PyProof.Rows L2
structure PTab {α : Type} (kvs : List (List Key × V)) (n m : Nat) (f : Nat → Nat → Option α) (R : V → α → Prop) (i : Nat) (tk : List (List Key × V)) : Prop where
  p1 : ∀ p ∈ tk, ∃ l b x, p.1 = keyR l b ∧ l < n ∧ b < m ∧ f l b = some x ∧ R p.2 x
  p2 : (tk.map (·.1)).Nodup
  p3 : ∀ j l b v, j < i → kvs[j]? = some (keyR l b, v) → (valV tk (keyR l b)).isSome = true
  p4 : tk.length ≤ i
theorem PTab.nil {α : Type} {kvs : List (List Key × V)} {n m : Nat} {f : Nat → Nat → Option α} {R : V → α → Prop} : PTab kvs n m f R 0 [] := ⟨(fun _ h => nomatch h), List.nodup_nil, (fun _ _ _ _ h => absurd h (Nat.not_lt_zero _)), Nat.le_refl _⟩
theorem PTab.step {α : Type} {kvs : List (List Key × V)} {n m : Nat} {f : Nat → Nat → Option α} {R : V → α → Prop} {i : Nat} {tk : List (List Key × V)} {l b : Nat} {v w : V} {x : α} (P : PTab kvs n m f R i tk) (hp : kvs[i]? = some (keyR l b, v)) (hl : l < n) (hb : b < m) (hx : f l b = some x) (hR : R w x) : PTab kvs n m f R (i + 1) (putK tk (keyR l b) w) where
  p1 := fun p hp' => by
    rcases put_keys p hp' with rfl | ⟨hm, _⟩
    · exact ⟨l, b, x, rfl, hl, hb, hx, hR⟩
    · exact P.p1 p hm
  p2 := put_nd P.p2
  p3 := fun j l' b' v' hj hj' => by
    by_cases c : j < i
    · exact isSome_put (P.p3 j l' b' v' c hj')
    · have e : j = i := by omega
      rw [e, hp] at hj'
      obtain ⟨rfl, rfl⟩ := keyR_inj (congrArg Prod.fst (Option.some.inj hj'))
      exact isSome_put'
  p4 := Nat.le_trans (length_putK ..) (Nat.succ_le_succ P.p4)
theorem PTab.done {α β : Type} {kvs : List (List Key × V)} {n m : Nat} {f : Nat → Nat → Option α} {R : V → α → Prop} {f' : Nat → Nat → Option β} {R' : V → β → Prop} {tk : List (List Key × V)} (P : PTab kvs n m f R kvs.length tk) (T : TabR kvs n m f' R') (h : ∀ l b, l < n → b < m → f l b ≠ none → f' l b ≠ none) : TabR tk n m f R :=
  ⟨P.p1, P.p2, fun l b hl hb hne => by
    obtain ⟨j, v, hj, hjl⟩ := mem_val (T.all l b hl hb (h l b hl hb hne))
    exact P.p3 j l b v hjl hj⟩
def anF (k : Nat) (rows : List (List Int)) (ks : List Ask) (bd : Nat → Int) (s l b : Nat) : Option Int := (lvR k rows ks s l b).map fun _ => stvR k rows ks bd (k - s) l b
def AnAt (H : Hp) (k m : Nat) (rows : List (List Int)) (ks : List Ask) (bd : Nat → Int) (s : Nat) (d : Addr) : Prop := TabAt H d (2 ^ k) m (anF k rows ks bd s) (fun v x => v = .int x)
section
variable {K : PySem.W.Frag} {H : Hp} {k m : Nat} {rows : List (List Int)} {ks : List Ask} {bd : Nat → Int} {s : Nat} {d : Addr}
theorem AnAt.grow {m' : List Addr} {H' : Hp} (g : Grow m' H H') (hm : d ∉ m') (h : AnAt H k m rows ks bd s d) : AnAt H' k m rows ks bd s d := by
  obtain ⟨kvs, h1, h2, h3⟩ := h
  exact ⟨kvs, Rd.growR g (.inl hm) h1, h2, h3⟩
theorem stv_step {st l b : Nat} (s1 : 1 ≤ st) (sk : st ≤ k) : stvR k rows ks bd (k - (st - 1)) l b = match kpR k rows ks st l b with
    | some d => if l = x1R k rows st l then d.mk' (stvR k rows ks bd (k - st) (outR k st l b) b) else stvR k rows ks bd (k - st) (outR k st l b) b
    | none => stvR k rows ks bd (k - st) (outR k st l b) b := by
  have e1 : k - (st - 1) = k - st + 1 := by omega
  have e2 : k - (k - st) = st := by omega
  have e : stvR k rows ks bd (k - st + 1) l b = match lvR k rows ks (k - (k - st) - 1) (x0R k rows (k - (k - st)) l) b, lvR k rows ks (k - (k - st) - 1) (x1R k rows (k - (k - st)) l) b with
    | some d, some _ => if l = x1R k rows (k - (k - st)) l then d.mk' (stvR k rows ks bd (k - st) (outR k (k - (k - st)) l b) b) else stvR k rows ks bd (k - st) (outR k (k - (k - st)) l b) b
    | _, _ => stvR k rows ks bd (k - st) (outR k (k - (k - st)) l b) b := rfl
  rw [e1, e, e2]
  unfold kpR
  cases lvR k rows ks (st - 1) (x0R k rows st l) b with
  | none => rfl
  | some d => cases lvR k rows ks (st - 1) (x1R k rows st l) b <;> rfl
theorem KpAt.val {st l b : Nat} {kvs : List (List Key × V)} (k4 : k ≤ 4) (hs : SetOk k rows) (s1 : 1 ≤ st) (sk : st ≤ k) (hl : l < 2 ^ k) (hb : b < m)
    (h3 : ∀ p ∈ kvs, ∃ l b x, p.1 = keyR (nN k st l) b ∧ l < 2 ^ k ∧ b < m ∧ kpR k rows ks st l b = some x ∧ DeedAt K H p.2 x)
    (h5 : ∀ l b, l < 2 ^ k → b < m → kpR k rows ks st l b ≠ none → (valV kvs (keyR (nN k st l) b)).isSome = true) :
    match kpR k rows ks st l b with | some x => ∃ v, valV kvs (keyR (nN k st l) b) = some v ∧ DeedAt K H v x | none => valV kvs (keyR (nN k st l) b) = none := by
  have sound : ∀ v, valV kvs (keyR (nN k st l) b) = some v → ∃ x, kpR k rows ks st l b = some x ∧ DeedAt K H v x := fun v hv => by
    obtain ⟨l', b', x, e, h1, h2, h4, h6⟩ := h3 _ (val_mem hv)
    obtain ⟨e1, rfl⟩ := keyR_inj e
    exact ⟨x, (kp_same k4 hs s1 sk hl h1 e1).trans h4, h6⟩
  cases hv : valV kvs (keyR (nN k st l) b) with
  | some v =>
    obtain ⟨x, e, hd⟩ := sound v hv
    rw [e]
    exact ⟨v, rfl, hd⟩
  | none =>
    cases hk : kpR k rows ks st l b with
    | none => rfl
    | some x =>
      have := h5 l b hl hb (by rw [hk]; exact fun z => nomatch z)
      rw [hv] at this; cases this
theorem lv_side {l b : Nat} (R : RndOk k m ks) (k4 : k ≤ 4) (hs : SetOk k rows) (hl : l < 2 ^ k) (h : lvR k rows ks k l b ≠ none) : l = b % 2 ^ k :=
  fig_inj k4 hl side_lt fun t t1 tk => arr_fig k4 hs (Nat.le_refl k) hl (fun z => h ((lvF R k l b).non.mpr z)) t t1 tk
def finR (k : Nat) (rows : List (List Int)) (ks : List Ask) (bd : Nat → Int) (j : Nat) : Int := match lvR k rows ks k (j % 2 ^ k) j with
  | some d => d.mk' (bd j)
  | none => bd j
def bdF (b : List Int) (j : Nat) : Int := b.getD j 0
def ansR (k : Nat) (rows : List (List Int)) (ks : List Ask) (b : List Int) : List Int := ks.map fun a => stvR k rows ks (bdF b) k a.hand.toNat a.box.toNat
def finL (k : Nat) (rows : List (List Int)) (ks : List Ask) (b : List Int) : List Int := (List.range b.length).map (finR k rows ks (bdF b))
def sp_share41 (K : PySem.W.Frag) : Sp := sp6 fun x y z u w v H Q => ∃ (k st m : Nat) (d kp an : Addr) (rows : List (List Int)) (ks : List Ask) (bd : Nat → Int), x = .int k ∧ y = .int st ∧ z = .ref d ∧ u = .ref kp ∧ v = .ref an ∧ k ≤ 4 ∧ 1 ≤ st ∧ st ≤ k ∧ m ≤ 16 ∧ LvAt K H k m rows ks (st - 1) d ∧ KpAt K H k m rows ks st kp ∧ RowsAt K H w rows ∧ SetOk k rows ∧ RndOk k m ks ∧
  AnAt H k m rows ks bd st an ∧ d ≠ kp ∧ d ≠ an ∧ ∀ a' H', Grow [d] H H' → H a' = none → AnAt H' k m rows ks bd (st - 1) a' → LvAt K H' k m rows ks (st - 1) d → Q (.ref a') H'
def sp_round41 (K : PySem.W.Frag) : Sp := sp4 fun x y z u H Q => ∃ (k : Nat) (b : List Int) (ks : List Ask) (rows : List (List Int)), x = .int k ∧ k ≤ 4 ∧ BoardAt K H y b ∧ 1 ≤ b.length ∧ b.length ≤ 16 ∧ AsksAt K H z ks ∧ ks.length ≤ 16 ∧ RndOk k b.length ks ∧ RowsAt K H u rows ∧ SetOk k rows ∧
  ∀ y H', Grow [] H H' → ToldAt K H' y (ansR k rows ks b, finL k rows ks b) → Q y H'
end
end L3

namespace L3
open PySem PySem.Spec PyProof.Rows L2
structure VI (kvs : List (List Key × V)) (b : List Int) (fin : Nat → Int) (i : Nat) (w : List Int) : Prop where
  len : w.length = b.length
  or : ∀ j, j < b.length → w[j]? = some (bdF b j) ∨ w[j]? = some (fin j)
  dn : ∀ i' l c v, i' < i → kvs[i']? = some (keyR l c, v) → c < b.length → w[c]? = some (fin c)
theorem bdF_get {b : List Int} {j : Nat} (h : j < b.length) : b[j]? = some (bdF b j) := by
  unfold bdF; rw [List.getD_eq_getElem?_getD, List.getElem?_eq_getElem h]; rfl
theorem VI.nil {kvs : List (List Key × V)} {b : List Int} {fin : Nat → Int} : VI kvs b fin 0 b := ⟨rfl, fun _ h => .inl (bdF_get h), fun _ _ _ _ h => absurd h (Nat.not_lt_zero _)⟩
theorem VI.step {kvs : List (List Key × V)} {b : List Int} {fin : Nat → Int} {i l c : Nat} {w : List Int} {v : V} (h : VI kvs b fin i w) (hp : kvs[i]? = some (keyR l c, v)) (hc : c < b.length) : VI kvs b fin (i + 1) (w.set c (fin c)) := by
  have hw : c < w.length := by rw [h.len]; exact hc
  refine ⟨by rw [List.length_set]; exact h.len, fun j hj => ?_, fun i' l' c' v' hi hp' hc' => ?_⟩
  · by_cases e : c = j
    · subst e; exact .inr (List.getElem?_set_self hw)
    · rw [List.getElem?_set_ne e]; exact h.or j hj
  · by_cases e : c = c'
    · subst e; exact List.getElem?_set_self hw
    · rw [List.getElem?_set_ne e]
      by_cases hii : i' < i
      · exact h.dn i' l' c' v' hii hp' hc'
      · have : i' = i := by omega
        rw [this, hp] at hp'
        exact absurd (keyR_inj (congrArg Prod.fst (Option.some.inj hp'))).2 e
theorem VI.done {kvs : List (List Key × V)} {k : Nat} {rows : List (List Int)} {ks : List Ask} {b w : List Int} {R : V → Deed → Prop} (h : VI kvs b (finR k rows ks (bdF b)) kvs.length w) (T : TabR kvs (2 ^ k) b.length (lvR k rows ks k) R) : w = finL k rows ks b := by
  have el : (finL k rows ks b).length = b.length := by unfold finL; rw [List.length_map, List.length_range]
  have gf : ∀ j, j < b.length → (finL k rows ks b)[j]? = some (finR k rows ks (bdF b) j) := fun j hj => by
    unfold finL; rw [List.getElem?_map, List.getElem?_range hj]; rfl
  refine List.ext_getElem? fun j => ?_
  by_cases hj : j < b.length
  · rw [gf j hj]
    cases hl : lvR k rows ks k (j % 2 ^ k) j with
    | none =>
      have e : finR k rows ks (bdF b) j = bdF b j := by unfold finR; rw [hl]
      rcases h.or j hj with z | z
      · rw [z, e]
      · exact z
    | some d =>
      obtain ⟨i', v, hp, hi⟩ := mem_val (T.all (j % 2 ^ k) j (side_lt (k := k) (b := j)) hj (by rw [hl]; exact fun z => nomatch z))
      exact h.dn i' _ j v hi hp hj
  · rw [List.getElem?_eq_none (by rw [h.len]; omega), List.getElem?_eq_none (by omega)]
theorem NetR.walk {K : PySem.W.Frag} {H H' : Hp} {k m : Nat} {rows : List (List Int)} {ks : List Ask} {ds kps : List Addr} {s : Nat} {d : Addr} (N : NetR K H k m rows ks ds kps) (hd : ds[s]? = some d) (g : Grow [d] H H') (L : LvAt K H' k m rows ks s d) : NetR K H' k m rows ks ds kps := by
  have nd := List.nodup_append.mp N.nd
  refine ⟨fun s' d' h => ?_, fun s' d' h => ?_, N.nd⟩
  · by_cases c : d' = d
    · subst c
      have e : s' = s := by
        obtain ⟨h1, h2⟩ := List.getElem?_eq_some_iff.mp h
        obtain ⟨h3, h4⟩ := List.getElem?_eq_some_iff.mp hd
        exact (List.getElem_inj nd.1).mp (h2.trans h4.symm)
      rw [e]; exact L
    · exact (N.lv s' d' h).grow g (by simpa using c)
  · exact (N.kp s' d' h).grow g (by simpa using fun z => nd.2.2 d (List.mem_of_getElem? hd) d' (List.mem_of_getElem? h) z.symm)
theorem NetR.ndk {K : PySem.W.Frag} {H : Hp} {k m : Nat} {rows : List (List Int)} {ks : List Ask} {ds kps : List Addr} {d e : Addr} (N : NetR K H k m rows ks ds kps) (h : d ∈ ds) (h' : e ∈ kps) : d ≠ e := (List.nodup_append.mp N.nd).2.2 d h e h'
theorem Grow.tfresh {ms : List Addr} {H H1 H2 : Hp} (g : Grow [] H H1) (g' : Grow ms H1 H2) (h : ∀ d ∈ ms, H d = none) : Grow [] H H2 := (g.wk.trans g').less fun b hb => .inr (h b hb)
theorem atI_map {α : Type} {xs : List α} {f : α → V} {i : Int} {j : Nat} {x : α} (e : i = j) (h : xs[j]? = some x) : atI (xs.map f) i = some (f x) := by
  subst e
  have hj := (List.getElem?_eq_some_iff.mp h).1
  exact ixGet (ixN_nat (by omega) (by rw [List.length_map]; exact hj)) (by rw [List.getElem?_map, show ((j : Int).toNat) = j from rfl, h]; rfl)
theorem ask_lv {k m : Nat} {rows : List (List Int)} {ks : List Ask} {bd : Nat → Int} {a : Ask} (R : RndOk k m ks) (ha : a ∈ ks) : anF k rows ks bd 0 a.hand.toNat a.box.toNat = some (stvR k rows ks bd k a.hand.toNat a.box.toNat) := by
  have e : lvR k rows ks 0 a.hand.toNat a.box.toNat ≠ none := by
    unfold lvR
    intro z
    have f := find_of41 R.nd ha
    simp only [Option.map_eq_none_iff] at z
    rw [List.find?_eq_none] at z
    exact z a ha (by simp [Int.toNat_of_nonneg (R.hand a ha).1, Int.toNat_of_nonneg (R.box a ha).1])
  unfold anF
  cases h : lvR k rows ks 0 a.hand.toNat a.box.toNat with
  | none => exact absurd h e
  | some d => rfl
end L3

namespace L3
open PySem PySem.Spec PyProof.Rows L2
section
variable {prog : Program} {w : World} {A : Around} {E : Value → Shared → Prop}
end
end L3

namespace L3
open PySem PySem.Spec PyProof.Rows L2
def putsP (ps : List (Key × V)) : List (Key × V) := ps.foldl (fun d p => putK d p.1 p.2) []
section
variable {prog : Program} {w : World} {A : Around} {E : Value → Shared → Prop} {R : Result → Shared → Prop} {I D : Addr} {fp wr : List Addr} {n : Nat} {P : Nat → Value → Prop} {St : Nat → Heap → Prop} {H : Hp} {s₀ : Shared}
end
section
variable {X : Cx}
end
end L3

namespace L3
open PySem PySem.Spec PyProof.Rows L2
section
variable {k t e a b : Nat} {rows : List (List Int)}
end
end L3

namespace L3
open PySem PySem.Spec PyProof.Rows L2
def atB (j : Nat) (as : List Ask) : List Ask := as.filter fun a => decide (a.box = (j : Int))
def hndE (k : Nat) (ks : List Ask) (e h : Nat) : List Ask := ks.filter fun a => decide (a.hand = (h : Int) ∧ a.box % ((2 ^ k : Nat) : Int) = (e : Int))
def dueE (k : Nat) (rows : List (List Int)) (ks : List Ask) (e : Nat) : List Ask := (ordL k rows e k).flatMap (hndE k ks e)
def dueN (k : Nat) (rows : List (List Int)) (ks : List Ask) (n : Nat) : List Ask := (List.range n).flatMap (dueE k rows ks)
def valD (b : List Int) (as : List Ask) : List Int := (List.range b.length).map fun j => runR (bdF b j) (atB j as)
def AnsD (b : List Int) (as : List Ask) (tk : List (Key × V)) : Prop := tk.length ≤ as.length ∧ ∀ a ∈ as, ∃ a' pre post, a' ∈ as ∧ a'.hand = a.hand ∧ as = pre ++ [a'] ++ post ∧ valV tk (.inl a.hand) = some (.int (runR (bdF b a'.box.toNat) (atB a'.box.toNat pre)))
theorem valD_get {b : List Int} {as : List Ask} {j : Nat} (h : j < b.length) : (valD b as)[j]? = some (runR (bdF b j) (atB j as)) := by
  unfold valD; rw [List.getElem?_map, List.getElem?_range h]; rfl
theorem AnsD.nil {b : List Int} : AnsD b [] [] := ⟨Nat.le_refl _, fun _ h => nomatch h⟩
theorem AnsD.snoc {b : List Int} {as : List Ask} {tk : List (Key × V)} {a : Ask} (h : AnsD b as tk) : AnsD b (as ++ [a]) (putK tk (.inl a.hand) (.int (runR (bdF b a.box.toNat) (atB a.box.toNat as)))) := by
  refine ⟨?_, fun x hx => ?_⟩
  · have := length_putK tk (Sum.inl a.hand) (V.int (runR (bdF b a.box.toNat) (atB a.box.toNat as)))
    rw [List.length_append]
    have h1 := h.1
    exact Nat.le_trans this (Nat.succ_le_succ h1)
  · by_cases c : x.hand = a.hand
    · refine ⟨a, as, [], by simp, c.symm, by simp, ?_⟩
      rw [valV_put, if_pos (by rw [c])]
    · rcases List.mem_append.mp hx with hx | hx
      · obtain ⟨a', pre, post, h1, h2, h3, h4⟩ := h.2 x hx
        refine ⟨a', pre, post ++ [a], List.mem_append_left _ h1, h2, by rw [h3, List.append_assoc], ?_⟩
        rw [valV_put, if_neg (fun z => c (Sum.inl.inj z))]; exact h4
      · exact absurd (by rw [List.mem_singleton.mp hx]) c
section
variable {k m : Nat} {rows : List (List Int)} {ks : List Ask} {b : List Int}
theorem side_int {j e : Nat} : ((j : Int) % ((2 ^ k : Nat) : Int) = (e : Int)) ↔ j % 2 ^ k = e := by
  rw [← Int.natCast_emod]; exact Int.ofNat_inj
theorem due_at (k4 : k ≤ 4) (hs : SetOk k rows) {j : Nat} : atB j (dueN k rows ks (2 ^ k)) = arrR k rows ks k (j % 2 ^ k) j := by
  rw [arr_ord k4 hs k (Nat.le_refl k), Nat.sub_self]
  have e1 : ∀ e, atB j (dueE k rows ks e) = if e = j % 2 ^ k then (ordL k rows (j % 2 ^ k) k).flatMap fun l => arrR k rows ks 0 l j else [] := fun e => by
    unfold atB dueE
    rw [List.filter_flatMap]
    by_cases c : e = j % 2 ^ k
    · rw [if_pos c, ← c]
      refine flat_congR fun h _ => ?_
      unfold hndE
      rw [List.filter_filter]
      show _ = ks.filter fun a => decide (a.hand = (h : Int) ∧ a.box = (j : Int))
      congr 1
      funext a
      rw [← Bool.decide_and]
      refine decide_eq_decide.mpr ⟨fun z => ⟨z.2.1, z.1⟩, fun z => ⟨z.2, z.1, by rw [z.2]; exact side_int.mpr c.symm⟩⟩
    · rw [if_neg c]
      refine List.flatMap_eq_nil_iff.mpr fun h _ => List.filter_eq_nil_iff.mpr fun a ha z => ?_
      have z1 := of_decide_eq_true z
      have z2 := of_decide_eq_true (List.mem_filter.mp ha).2
      exact c (side_int.mp (by rw [← z1]; exact z2.2)).symm
  unfold dueN
  have e2 : atB j ((List.range (2 ^ k)).flatMap (dueE k rows ks)) = (List.range (2 ^ k)).flatMap fun e => atB j (dueE k rows ks e) := by unfold atB; rw [List.filter_flatMap]
  rw [e2]
  have e3 : (List.range (2 ^ k)).flatMap (fun e => atB j (dueE k rows ks e)) = (List.range (2 ^ k)).flatMap fun e => if e = j % 2 ^ k then (ordL k rows (j % 2 ^ k) k).flatMap fun l => arrR k rows ks 0 l j else [] := flat_congR fun e _ => e1 e
  rw [e3]
  have one : ∀ (L : List Ask) (n x : Nat), (List.range n).flatMap (fun e => if e = x then L else []) = if x < n then L else [] := by
    intro L n x
    induction n with
    | zero => rfl
    | succ n ih =>
      rw [List.range_succ, List.flatMap_append, ih, List.flatMap_cons, List.flatMap_nil, List.append_nil]
      by_cases c : x < n
      · rw [if_pos c, if_neg (by omega), if_pos (by omega), List.append_nil]
      · rw [if_neg c]
        by_cases c2 : n = x
        · rw [if_pos c2, if_pos (by omega), List.nil_append]
        · rw [if_neg c2, if_neg (by omega), List.nil_append]
  rw [one, if_pos (side_lt (k := k) (b := j))]
theorem val_fin (k4 : k ≤ 4) (hs : SetOk k rows) (R : RndOk k m ks) : valD b (dueN k rows ks (2 ^ k)) = finL k rows ks b := by
  unfold valD finL
  refine List.map_congr_left fun j _ => ?_
  rw [due_at k4 hs]
  have F := lvF (rows := rows) R k (j % 2 ^ k) j
  unfold finR
  cases h : lvR k rows ks k (j % 2 ^ k) j with
  | none => rw [F.non.mp h]; rfl
  | some d => exact ((F.run d h).2 _).symm
theorem nodup_arr (k4 : k ≤ 4) (hs : SetOk k rows) (R : RndOk k m ks) {j : Nat} : (arrR k rows ks k (j % 2 ^ k) j).Nodup := by
  rw [arr_ord k4 hs k (Nat.le_refl k), Nat.sub_self]
  have ndk : ks.Nodup := List.Pairwise.of_map (f := (·.hand)) (S := (· ≠ ·)) (fun a b h z => h (by rw [z])) R.nd
  have ndo : (ordL k rows (j % 2 ^ k) k).Nodup := (ord_perm k4 hs (side_lt (k := k) (b := j))).nodup_iff.mpr List.nodup_range
  unfold List.Nodup
  rw [List.pairwise_flatMap]
  refine ⟨fun l _ => ndk.filter _, ndo.imp fun {x y} hxy a ha c hc z => ?_⟩
  have h1 := of_decide_eq_true (List.mem_filter.mp ha).2
  have h2 := of_decide_eq_true (List.mem_filter.mp hc).2
  rw [z] at h1
  have := h1.1.symm.trans h2.1
  exact hxy (by omega)
theorem split_inj {α : Type} {a : α} : ∀ {p1 p2 q1 q2 : List α}, (p1 ++ a :: q1).Nodup → p1 ++ a :: q1 = p2 ++ a :: q2 → p1 = p2
  | [], [], _, _, _, _ => rfl
  | [], x :: p2, q1, q2, nd, h => by
    rw [List.nil_append, List.cons_append] at h
    obtain ⟨rfl, h2⟩ := List.cons.inj h
    rw [List.nil_append, List.nodup_cons, h2] at nd
    exact absurd (by simp) nd.1
  | x :: p1, [], q1, q2, nd, h => by
    rw [List.nil_append, List.cons_append] at h
    obtain ⟨rfl, h2⟩ := List.cons.inj h
    rw [List.cons_append, List.nodup_cons] at nd
    exact absurd (by simp) nd.1
  | x :: p1, y :: p2, q1, q2, nd, h => by
    rw [List.cons_append, List.cons_append] at h
    obtain ⟨rfl, h2⟩ := List.cons.inj h
    rw [List.cons_append, List.nodup_cons] at nd
    rw [split_inj nd.2 h2]
theorem due_mem (k4 : k ≤ 4) (hs : SetOk k rows) (R : RndOk k m ks) {a : Ask} (ha : a ∈ ks) : a ∈ dueN k rows ks (2 ^ k) := by
  have hh := R.hand a ha
  have hb := R.box a ha
  have he : a.box.toNat % 2 ^ k < 2 ^ k := side_lt (k := k) (b := a.box.toNat)
  have hl : a.hand.toNat < 2 ^ k := hand_nat41 hh.1 hh.2
  refine List.mem_flatMap.mpr ⟨a.box.toNat % 2 ^ k, List.mem_range.mpr he, List.mem_flatMap.mpr ⟨a.hand.toNat, ?_, ?_⟩⟩
  · exact (ordF k4 hs he k (Nat.le_refl k)).all _ hl fun t t1 t2 => by omega
  · refine List.mem_filter.mpr ⟨ha, decide_eq_true ⟨(Int.toNat_of_nonneg hh.1).symm, ?_⟩⟩
    have := (side_int (k := k) (j := a.box.toNat) (e := a.box.toNat % 2 ^ k)).mpr rfl
    rw [Int.toNat_of_nonneg hb.1] at this; exact this
theorem due_ks {n : Nat} {a : Ask} (h : a ∈ dueN k rows ks n) : a ∈ ks := by
  obtain ⟨e, _, h⟩ := List.mem_flatMap.mp h
  obtain ⟨l, _, h⟩ := List.mem_flatMap.mp h
  exact (List.mem_filter.mp h).1
end
end L3

namespace L3
open PySem PySem.Spec PyProof.Rows L2
theorem len1 {α β : Type} {f : α → List β} : ∀ {xs : List α}, (∀ x ∈ xs, (f x).length ≤ 1) → (xs.flatMap f).length ≤ xs.length
  | [], _ => Nat.le_refl _
  | x :: xs, h => by
    rw [List.flatMap_cons, List.length_append, List.length_cons]
    have h1 := h x (by simp)
    have h2 := len1 (f := f) (xs := xs) fun y hy => h y (by simp [hy])
    omega
section
variable {k m : Nat} {rows : List (List Int)} {ks : List Ask} {b : List Int}
theorem arr_len (k4 : k ≤ 4) (hs : SetOk k rows) (R : RndOk k m ks) {j : Nat} : (arrR k rows ks k (j % 2 ^ k) j).length ≤ 16 := by
  rw [arr_ord k4 hs k (Nat.le_refl k), Nat.sub_self]
  refine Nat.le_trans (len1 fun l _ => ?_) (by rw [(ordF k4 hs (side_lt (k := k) (b := j)) k (Nat.le_refl k)).len]; exact pow16 k4)
  show (ks.filter fun a => decide (a.hand = (l : Int) ∧ a.box = (j : Int))).length ≤ 1
  rw [one_of R.nd]
  cases ks.find? fun a => decide (a.hand = (l : Int) ∧ a.box = (j : Int)) <;> simp
theorem arr_ks (k4 : k ≤ 4) (hs : SetOk k rows) {j : Nat} {a : Ask} (h : a ∈ arrR k rows ks k (j % 2 ^ k) j) : a ∈ ks := by
  rw [← due_at k4 hs] at h
  exact due_ks (List.mem_filter.mp h).1
end
end L3

namespace L3
open PySem PySem.Spec PyProof.Rows L2
theorem fold_none41 {key : Key} : ∀ {ps d : List (Key × V)}, (∀ p ∈ ps, p.1 ≠ key) → valV (ps.foldl (fun d p => putK d p.1 p.2) d) key = valV d key
  | [], d, _ => rfl
  | p :: ps, d, h => by
    rw [List.foldl_cons, fold_none41 fun q hq => h q (by simp [hq]), valV_put, if_neg (fun z => h p (by simp) z.symm)]
theorem fold_some41 {p : Key × V} : ∀ {ps d : List (Key × V)}, (ps.map (·.1)).Nodup → p ∈ ps → valV (ps.foldl (fun d p => putK d p.1 p.2) d) p.1 = some p.2
  | q :: ps, d, nd, h => by
    rw [List.map_cons, List.nodup_cons] at nd
    rw [List.foldl_cons]
    rcases List.mem_cons.mp h with rfl | h
    · rw [fold_none41 fun x hx z => nd.1 (List.mem_map.mpr ⟨x, hx, z⟩), valV_put, if_pos rfl]
    · exact fold_some41 nd.2 h
def ByAt (K : PySem.W.Frag) (H : Hp) (ks : List Ask) (ps : List (Key × V)) : Prop := ps.length = ks.length ∧ ∀ (i : Nat) (a : Ask), ks[i]? = some a → ∃ t dv, ps[i]? = some (.inl a.hand, .ref t) ∧ H t = some (.tup [.int a.box, dv]) ∧ DeedAt K H dv a.deed
theorem ByAt.grow {K : PySem.W.Frag} {H H' : Hp} {m : List Addr} {ks : List Ask} {ps : List (Key × V)} (g : Grow m H H') (h : ByAt K H ks ps) : ByAt K H' ks ps :=
  ⟨h.1, fun i a ha => by obtain ⟨t, dv, h1, h2, h3⟩ := h.2 i a ha; exact ⟨t, dv, h1, g.tup _ _ h2, g.deed h3⟩⟩
theorem ByAt.keys {K : PySem.W.Frag} {H : Hp} {ks : List Ask} {ps : List (Key × V)} (h : ByAt K H ks ps) : ps.map (·.1) = ks.map fun a => Sum.inl a.hand := by
  refine List.ext_getElem? fun i => ?_
  rw [List.getElem?_map, List.getElem?_map]
  by_cases c : i < ks.length
  · obtain ⟨t, dv, h1, _⟩ := h.2 i ks[i] (List.getElem?_eq_getElem c)
    rw [h1, List.getElem?_eq_getElem c]; rfl
  · rw [List.getElem?_eq_none (by rw [h.1]; omega), List.getElem?_eq_none (by omega)]; rfl
theorem ByAt.some {K : PySem.W.Frag} {H : Hp} {ks : List Ask} {ps : List (Key × V)} (h : ByAt K H ks ps) (nd : (ks.map (·.hand)).Nodup) {a : Ask} (ha : a ∈ ks) : ∃ t dv, valV (putsP ps) (.inl a.hand) = some (.ref t) ∧ H t = some (.tup [.int a.box, dv]) ∧ DeedAt K H dv a.deed := by
  obtain ⟨i, hi, rfl⟩ := List.getElem_of_mem ha
  obtain ⟨t, dv, h1, h2, h3⟩ := h.2 i ks[i] (List.getElem?_eq_getElem hi)
  refine ⟨t, dv, ?_, h2, h3⟩
  have nd' : (ps.map (·.1)).Nodup := by
    rw [h.keys]
    have e : (ks.map fun a => (Sum.inl a.hand : Key)) = (ks.map (·.hand)).map Sum.inl := by rw [List.map_map]; rfl
    rw [e]
    exact nd.map _ fun x y hxy z => hxy (Sum.inl.inj z)
  exact fold_some41 (p := (Sum.inl ks[i].hand, .ref t)) nd' (List.mem_of_getElem? h1)
theorem ByAt.none {K : PySem.W.Frag} {H : Hp} {ks : List Ask} {ps : List (Key × V)} (h : ByAt K H ks ps) {i : Int} (hno : ∀ a ∈ ks, a.hand ≠ i) : valV (putsP ps) (.inl i) = none := by
  refine fold_none41 fun p hp z => ?_
  have : p.1 ∈ ps.map (·.1) := List.mem_map.mpr ⟨p, hp, rfl⟩
  rw [h.keys] at this
  obtain ⟨a, ha, e⟩ := List.mem_map.mp this
  exact hno a ha (Sum.inl.inj (e.trans z))
section
variable {k m : Nat} {rows : List (List Int)} {ks : List Ask} {b : List Int}
end
theorem AllA.ins {K : PySem.W.Frag} {H : Hp} {y : V} {a : Ask} (ha : AskAt K H y a) : ∀ {xs : List V} {ks : List Ask} {i : Nat}, AllA K H xs ks → AllA K H (xs.take i ++ [y] ++ xs.drop i) (ks.take i ++ [a] ++ ks.drop i)
  | xs, ks, 0, h => ⟨ha, h⟩
  | [], [], i + 1, h => ⟨ha, trivial⟩
  | x :: xs, k :: ks, i + 1, h => ⟨h.1, AllA.ins ha (i := i) h.2⟩
structure RndS (j m : Nat) (ks : List Ask) : Prop where
  nd : (ks.map (·.hand)).Nodup
  hand : ∀ a ∈ ks, 0 ≤ a.hand ∧ a.hand < (j : Int)
  box : ∀ a ∈ ks, 0 ≤ a.box ∧ a.box < (m : Int)
  ok : ∀ a ∈ ks, a.deed.Ok
  sm : ∀ a ∈ ks, a.deed.Sm
theorem RndS.nil {j m : Nat} : RndS j m [] := ⟨List.nodup_nil, (fun _ h => nomatch h), (fun _ h => nomatch h), (fun _ h => nomatch h), (fun _ h => nomatch h)⟩
theorem RndS.next {j m : Nat} {ks : List Ask} (h : RndS j m ks) : RndS (j + 1) m ks := ⟨h.nd, fun a ha => by have := h.hand a ha; omega, h.box, h.ok, h.sm⟩
theorem RndS.ins {j m i : Nat} {ks : List Ask} {a : Ask} (h : RndS j m ks) (h1 : a.hand = (j : Int)) (h2 : 0 ≤ a.box ∧ a.box < (m : Int)) (h3 : a.deed.Ok) (h4 : a.deed.Sm) : RndS (j + 1) m (ks.take i ++ [a] ++ ks.drop i) := by
  have mem : ∀ c ∈ ks.take i ++ [a] ++ ks.drop i, c = a ∨ c ∈ ks := fun c hc => by
    rcases List.mem_append.mp hc with hc | hc
    · rcases List.mem_append.mp hc with hc | hc
      · exact .inr (List.mem_of_mem_take hc)
      · exact .inl (List.mem_singleton.mp hc)
    · exact .inr (List.mem_of_mem_drop hc)
  have pm : (ks.take i ++ [a] ++ ks.drop i).Perm (a :: ks) := by
    have p1 : (ks.take i ++ [a]).Perm (a :: ks.take i) := List.perm_append_singleton a (ks.take i)
    have p2 := p1.append_right (ks.drop i)
    rw [List.cons_append, List.take_append_drop] at p2
    exact p2
  refine ⟨?_, fun c hc => ?_, fun c hc => ?_, fun c hc => ?_, fun c hc => ?_⟩
  · refine ((pm.map (·.hand)).nodup_iff).mpr ?_
    rw [List.map_cons, List.nodup_cons]
    refine ⟨fun z => ?_, h.nd⟩
    obtain ⟨c, hc, e⟩ := List.mem_map.mp z
    have := (h.hand c hc).2
    rw [e, h1] at this
    omega
  · rcases mem c hc with rfl | hc
    · rw [h1]; omega
    · have := h.hand c hc; omega
  · rcases mem c hc with rfl | hc
    · exact h2
    · exact h.box c hc
  · rcases mem c hc with rfl | hc
    · exact h3
    · exact h.ok c hc
  · rcases mem c hc with rfl | hc
    · exact h4
    · exact h.sm c hc
theorem RndS.done {k m : Nat} {ks : List Ask} (h : RndS (2 ^ k) m ks) : RndOk k m ks := by
  have e : ((2 ^ k : Nat) : Int) = 2 ^ k := by simp
  refine ⟨h.nd, fun a ha => ?_, h.box, h.ok⟩
  have := h.hand a ha
  rw [e] at this
  exact this
theorem ifS_cut41 {c : TT} {t u : TS} {D : Ends} {σ : L2.St} {H : Hp} (Good : Hp → Prop) (hc : ∀ K : Bool → Hp → Prop, (∀ b H', Good H' → K b H') → c σ H K) (ht : ∀ H', Good H' → t D σ H') (hu : ∀ H', Good H' → u D σ H') : tIfS c t u D σ H := hc _ fun b H' g => by
  cases b with
  | true => exact iteT (ht H' g)
  | false => exact iteF (hu H' g)
end L3

namespace L3
open PySem PySem.Spec PyProof.Rows L2
def misH (ds tab : List (List Int)) (i j : Nat) : Prop := ds.getD (cellT tab i j).toNat [] ≠ thenL (ds.getD i []) (ds.getD j [])
def FirstH (R : Nat) (ds tab : List (List Int)) (i j : Nat) : Prop := (i < R ∧ j < R) ∧ misH ds tab i j ∧ ∀ i' j' : Nat, i' < R → j' < R → (i' < i ∨ (i' = i ∧ j' < j)) → ¬ misH ds tab i' j'
theorem FirstH.eq {R : Nat} {ds tab : List (List Int)} {i j i' j' : Nat} (a : FirstH R ds tab i j) (b : FirstH R ds tab i' j') : i = i' ∧ j = j' := by
  have h1 : ¬ (i' < i ∨ (i' = i ∧ j' < j)) := fun z => a.2.2 i' j' b.1.1 b.1.2 z b.2.1
  have h2 : ¬ (i < i' ∨ (i = i' ∧ j < j')) := fun z => b.2.2 i j a.1.1 a.1.2 z a.2.1
  omega
def HldAt (K : PySem.W.Frag) (H : Hp) (R : Nat) (ds tab : List (List Int)) (y : V) : Prop :=
  (y = .non ∧ ∀ i j : Nat, i < R → j < R → ¬ misH ds tab i j) ∨ ∃ i j : Nat, FirstH R ds tab i j ∧ BoardAt K H y [(i : Int), (j : Int)]
structure DT (K : PySem.W.Frag) (H : Hp) (R M : Nat) (ds tab : List (List Int)) (x y : V) : Prop where
  hx : RowsAt K H x ds
  hy : RowsAt K H y tab
  r1 : 1 ≤ R
  r60 : R ≤ 60
  m1 : 1 ≤ M
  m5 : M ≤ 5
  hD : TabOk R M ds
  hT : TabOk R R tab
theorem DT.grow {K : PySem.W.Frag} {m : List Addr} {H H' : Hp} {R M : Nat} {ds tab : List (List Int)} {x y : V} (h : DT K H R M ds tab x y) (g : Grow m H H') : DT K H' R M ds tab x y :=
  ⟨g.rows h.hx, g.rows h.hy, h.r1, h.r60, h.m1, h.m5, h.hD, h.hT⟩
def hldD : Option (Nat × Nat) → PyData
  | none => .none
  | some t => intsD [(t.1 : Int), (t.2 : Int)]
def HldO (R : Nat) (ds tab : List (List Int)) : Option (Nat × Nat) → Prop
  | none => ∀ i j : Nat, i < R → j < R → ¬ misH ds tab i j
  | some t => FirstH R ds tab t.1 t.2
theorem HldO.eq {R : Nat} {ds tab : List (List Int)} {o o' : Option (Nat × Nat)} (a : HldO R ds tab o) (b : HldO R ds tab o') : o = o' := by
  cases o with
  | none => cases o' with
    | none => rfl
    | some t => exact absurd b.2.1 (a _ _ b.1.1 b.1.2)
  | some t => cases o' with
    | none => exact absurd a.2.1 (b _ _ a.1.1 a.1.2)
    | some t' =>
      obtain ⟨i, j⟩ := t
      obtain ⟨i', j'⟩ := t'
      obtain ⟨e1, e2⟩ := FirstH.eq a b
      rw [show i = i' from e1, show j = j' from e2]
theorem HldAt.o {K : PySem.W.Frag} {H : Hp} {R : Nat} {ds tab : List (List Int)} {y : V} (h : HldAt K H R ds tab y) : ∃ o, HldO R ds tab o ∧ Dat K H y (hldD o) ∧ ((o = none ∧ y = .non) ∨ ∃ a, y = .ref a) := by
  rcases h with ⟨rfl, h⟩ | ⟨i, j, h, hb⟩
  · exact ⟨none, h, .non, .inl ⟨rfl, rfl⟩⟩
  · exact ⟨some (i, j), h, hb.dat, .inr (let ⟨a, e, _⟩ := hb; ⟨a, e⟩)⟩
theorem HldAt.grow {K : PySem.W.Frag} {m : List Addr} {H H' : Hp} {R : Nat} {ds tab : List (List Int)} {y : V} (h : HldAt K H R ds tab y) (g : Grow m H H') : HldAt K H' R ds tab y := by
  rcases h with h | ⟨i, j, h, hb⟩
  · exact .inl h
  · exact .inr ⟨i, j, h, g.board hb⟩
section
variable {X : Cx} {K : PySem.W.Frag}
end
theorem FamOk.closed {ms : List (List Int)} {S : Nat} {r : FW} (h : FamOk ms S r) (hM : Mks ms S) (hl : r.length ≤ 60) {a b : List Int} (ha : a ∈ keysF r) (hb : b ∈ keysF r) : thenL a b ∈ keysF r :=
  h.all hl ((h.good.wd a ha).mul hM (h.good.wd b hb))
structure SomeAt (K : PySem.W.Frag) (H : Hp) (p lf : Addr) (S : Nat) (rows : List (List Int)) : Prop where
  l : ∃ zs, H lf = some (.lst zs) ∧ AllR (BoardAt K H) zs rows
  np : lf ∉ [p]
  r1 : 1 ≤ rows.length
  r60 : rows.length ≤ 60
  ok : Mks rows S
  cl : ∀ a ∈ rows, ∀ b ∈ rows, thenL a b ∈ rows
theorem SomeAt.of {K : PySem.W.Frag} {H : Hp} {p lf : Addr} {S : Nat} {rows ms : List (List Int)} {zs : List V} {f : FW} (hF : FamL ms S f) (hM : Mks ms S) (hf : Few ms S) (hl : H lf = some (.lst zs)) (np : lf ∉ [p]) (hz : AllR (BoardAt K H) zs rows) (pm : rows.Perm (keysF f)) : SomeAt K H p lf S rows := by
  have hO := hF.ok
  have h60 := hO.le hf
  have lk : rows.length = f.length := by rw [pm.length_eq]; unfold keysF; rw [List.length_map]
  refine ⟨⟨zs, hl, hz⟩, np, ?_, by omega, fun d hd => (hO.good.wd d (pm.mem_iff.mp hd)).dd hM, fun a ha b hb => pm.mem_iff.mpr (hO.closed hM h60 (pm.mem_iff.mp ha) (pm.mem_iff.mp hb))⟩
  have : 0 < rows.length := List.length_pos_of_mem (pm.mem_iff.mpr hO.idk)
  omega
def AskedH (K : PySem.W.Frag) (H : Hp) (z : V) : Prop := ∃ t y1 y2 y3 R M ds tab, z = .ref t ∧ SqT K H t [y1, y2, y3] ∧ DT K H R M ds tab y1 y2 ∧ HldAt K H R ds tab y3
theorem AskedH.grow {K : PySem.W.Frag} {m : List Addr} {H H' : Hp} {z : V} (h : AskedH K H z) (g : Grow m H H') : AskedH K H' z := by
  obtain ⟨t, y1, y2, y3, R, M, ds, tab, e, h1, h2, h3⟩ := h
  exact ⟨t, y1, y2, y3, R, M, ds, tab, e, g.sqT h1, h2.grow g, h3.grow g⟩
end L3

namespace L3
open PySem PySem.Spec PyProof.Rows L2 PySem.W
section
variable {prog : Program} {w : World} {A : Around} {E : Value → Shared → Prop} {s : Shared} {T : String} {r d : Addr} {n : Nat} {P : Nat → Value → Prop} {OK : Heap → Prop}
end
section
variable {X : Cx}
end
end L3

namespace L3
open PySem PySem.Spec PyProof.Rows L2
theorem GoodF.le {ms : List (List Int)} {S : Nat} {f : FW} (h : GoodF ms S f) (hf : Few ms S) : f.length ≤ 60 := by
  obtain ⟨l, hl, hw⟩ := hf
  have := nodup_le h.nd fun d hd => hw d (h.wd d hd)
  unfold keysF at this
  rw [List.length_map] at this
  omega
structure Fam (S : Nat) (fam : List (List Int)) : Prop where
  nd : fam.Nodup
  dd : ∀ d ∈ fam, Dd S d
  cl : ∀ a ∈ fam, ∀ b ∈ fam, thenL a b ∈ fam
  hd : fam[0]? = some (idL S)
  l60 : fam.length ≤ 60
theorem FamL.fam {ms : List (List Int)} {S : Nat} {f : FW} (h : FamL ms S f) (hM : Mks ms S) (hf : Few ms S) : Fam S (keysF f) := by
  have hO := h.ok
  have h60 := hO.le hf
  refine ⟨hO.good.nd, fun d hd => (hO.good.wd d hd).dd hM, fun a ha b hb => hO.closed hM h60 ha hb, ?_, by unfold keysF; rw [List.length_map]; exact h60⟩
  have := hO.hd
  cases f with
  | nil => cases this
  | cons p f => cases this; rfl
structure MksAt (K : PySem.W.Frag) (H : Hp) (x : V) (ms : List (List Int)) (S : Nat) : Prop where
  at' : RowsAt K H x ms
  ok : Mks ms S
  s1 : 1 ≤ S
  s5 : S ≤ 5
  m1 : 1 ≤ ms.length
  m4 : ms.length ≤ 4
  few : Few ms S
theorem MksAt.grow {K : PySem.W.Frag} {m : List Addr} {H H' : Hp} {x : V} {ms : List (List Int)} {S : Nat} (h : MksAt K H x ms S) (g : Grow m H H') : MksAt K H' x ms S := ⟨g.rows h.at', h.ok, h.s1, h.s5, h.m1, h.m4, h.few⟩
def RowsB (K : PySem.W.Frag) (H : Hp) (x : V) (rows : List (List Int)) : Prop := ∃ r xs, x = .ref r ∧ SqT K H r xs ∧ AllR (KeyB H) xs rows
theorem RowsB.rows {K : PySem.W.Frag} {H : Hp} {x : V} {rows : List (List Int)} (h : RowsB K H x rows) : RowsAt K H x rows := let ⟨r, xs, e, h1, h2⟩ := h; ⟨r, xs, e, h1, h2.imp fun _ _ z => z.board⟩
theorem RowsB.grow {K : PySem.W.Frag} {m : List Addr} {H H' : Hp} {x : V} {rows : List (List Int)} (h : RowsB K H x rows) (g : Grow m H H') : RowsB K H' x rows := let ⟨r, xs, e, h1, h2⟩ := h; ⟨r, xs, e, g.sqT h1, h2.imp fun _ _ z => z.grow g⟩
section
variable {K : PySem.W.Frag} {a : Addr} {c : Bool} {xs : List V} {k : Nat} {g : TG} {tt : TT} {te tk tv : TE} {Q : VK} {σ : L2.St} {H : Hp}
end
end L3

namespace L3
open PySem PySem.Spec PyProof.Rows L2
end L3

namespace L3
open PySem PySem.Spec PyProof.Rows L2 PySem.W
structure OrdB (n : Nat) (lt : Nat → Nat → Bool) : Prop where
  tr : ∀ {i j k : Nat}, lt i j = true → lt j k = true → lt i k = true
  as : ∀ {i j : Nat}, lt i j = true → lt j i = false
  to : ∀ {i j : Nat}, i < n → j < n → i ≠ j → lt i j = false → lt j i = true
structure PmA (n : Nat) (p : Array Nat) : Prop where
  sz : p.size = n
  pm : p.toList.Perm (List.range n)
theorem PmA.lt {n : Nat} {p : Array Nat} (h : PmA n p) {i : Nat} (hi : i < n) : p.getD i 0 < n := by
  have hi' : i < p.toList.length := by rw [Array.length_toList, h.sz]; exact hi
  have e : p.getD i 0 = p.toList[i] := by simp [Array.getD, h.sz, hi]
  rw [e]
  exact List.mem_range.mp (h.pm.mem_iff.mp (List.getElem_mem hi'))
theorem PmA.inj {n : Nat} {p : Array Nat} (h : PmA n p) {i j : Nat} (hi : i < n) (hj : j < n) (hne : i ≠ j) : p.getD i 0 ≠ p.getD j 0 := by
  have hi' : i < p.toList.length := by rw [Array.length_toList, h.sz]; exact hi
  have hj' : j < p.toList.length := by rw [Array.length_toList, h.sz]; exact hj
  have e : p.getD i 0 = p.toList[i] := by simp [Array.getD, h.sz, hi]
  have e' : p.getD j 0 = p.toList[j] := by simp [Array.getD, h.sz, hj]
  rw [e, e']
  intro z
  exact hne ((List.getElem_inj (h.pm.nodup_iff.mpr List.nodup_range)).mp z)
theorem PmA.of_perm {n : Nat} {p q : Array Nat} (h : PmA n p) (hq : q.Perm p) : PmA n q :=
  ⟨hq.size_eq.trans h.sz, (Array.perm_iff_toList_perm.mp hq).trans h.pm⟩
def Ups (lt : Nat → Nat → Bool) (p : Array Nat) (k : Nat) : Prop := ∀ i j, i < j → j < k → lt (p.getD i 0) (p.getD j 0) = true
def Downs (lt : Nat → Nat → Bool) (p : Array Nat) (k : Nat) : Prop := ∀ i j, i < j → j < k → lt (p.getD j 0) (p.getD i 0) = true
theorem gtD_of {p q : Array Nat} {i j : Nat} (h : p[i]? = q[j]?) : p.getD i 0 = q.getD j 0 := by
  rw [Array.getD_eq_getD_getElem?, Array.getD_eq_getD_getElem?, h]
section
variable {n : Nat} {lt : Nat → Nat → Bool} {cmp : Nat → Nat → (Bool → Shared → Prop) → Shared → Prop} {s : Shared}
def Says (n : Nat) (lt : Nat → Nat → Bool) (cmp : Nat → Nat → (Bool → Shared → Prop) → Shared → Prop) (s : Shared) : Prop := ∀ i j (C : Bool → Shared → Prop), i < n → j < n → C (lt i j) s → cmp i j C s
theorem Ups.snoc {p : Array Nat} {m : Nat} (o : OrdB n lt) (h1 : 1 ≤ m) (u : Ups lt p m) (e : lt (p.getD (m - 1) 0) (p.getD m 0) = true) : Ups lt p (m + 1) := by
  intro i j hij hj
  by_cases hjm : j < m
  · exact u i j hij hjm
  · obtain rfl : j = m := by omega
    by_cases hi : i = j - 1
    · subst hi; exact e
    · exact o.tr (u i (j - 1) (by omega) (by omega)) e
theorem asc_says (o : OrdB n lt) (hc : Says n lt cmp s) {p : Array Nat} (hp : PmA n p) : ∀ (f m : Nat) {Q : Nat → Shared → Prop}, 1 ≤ m → m + f = n → Ups lt p m →
    (∀ k, m ≤ k → k ≤ n → Ups lt p k → (k = n ∨ lt (p.getD k 0) (p.getD (k - 1) 0) = true) → Q k s) → (kas_asc p f m).kasWp cmp Q s
  | 0, m, Q, h1, e, u, q => q m (Nat.le_refl _) (by omega) u (.inl (by omega))
  | f + 1, m, Q, h1, e, u, q => by
    refine hc _ _ _ (hp.lt (by omega)) (hp.lt (by omega)) ?_
    cases c : lt (p.getD m 0) (p.getD (m - 1) 0) with
    | true =>
      dsimp only
      rw [if_pos rfl]
      exact q m (Nat.le_refl _) (by omega) u (.inr c)
    | false =>
      dsimp only
      rw [if_neg (by decide)]
      exact asc_says o hc hp f (m + 1) (by omega) (by omega) (u.snoc o h1 (o.to (hp.lt (by omega)) (hp.lt (by omega)) (hp.inj (by omega) (by omega) (by omega)) c)) fun k hk => q k (by omega)
theorem Downs.snoc {p : Array Nat} {m : Nat} (o : OrdB n lt) (h1 : 1 ≤ m) (u : Downs lt p m) (e : lt (p.getD m 0) (p.getD (m - 1) 0) = true) : Downs lt p (m + 1) := by
  intro i j hij hj
  by_cases hjm : j < m
  · exact u i j hij hjm
  · obtain rfl : j = m := by omega
    by_cases hi : i = j - 1
    · subst hi; exact e
    · exact o.tr e (u i (j - 1) (by omega) (by omega))
theorem desc_says (o : OrdB n lt) (hc : Says n lt cmp s) {p : Array Nat} (hp : PmA n p) : ∀ (f m : Nat) {Q : Array Nat × Nat × Nat → Shared → Prop}, 1 ≤ m → m + f = n → Downs lt p m →
    (∀ k, m ≤ k → k ≤ n → Downs lt p k → Q (p, k, 0) s) → (kas_desc f p m 0).kasWp cmp Q s
  | 0, m, Q, h1, e, u, q => q m (Nat.le_refl _) (by omega) u
  | f + 1, m, Q, h1, e, u, q => by
    refine hc _ _ _ (hp.lt (by omega)) (hp.lt (by omega)) ?_
    cases c : lt (p.getD m 0) (p.getD (m - 1) 0) with
    | true =>
      dsimp only
      rw [if_pos rfl, if_neg (by decide)]
      exact desc_says o hc hp f (m + 1) (by omega) (by omega) (u.snoc o h1 c) fun k hk => q k (by omega)
    | false =>
      dsimp only
      rw [if_neg (by decide)]
      refine hc _ _ _ (hp.lt (by omega)) (hp.lt (by omega)) ?_
      rw [o.to (hp.lt (by omega)) (hp.lt (by omega)) (hp.inj (by omega) (by omega) (by omega)) c]
      dsimp only
      rw [if_pos rfl]
      exact q m (Nat.le_refl _) (by omega) u
theorem rev_ups {p : Array Nat} {k : Nat} (hp : PmA n p) (hk : k ≤ n) (d : Downs lt p k) : Ups lt (kas_rev p 0 k) k := by
  intro i j hij hj
  have g : ∀ x, x < k → (kas_rev p 0 k).getD x 0 = p.getD (k - 1 - x) 0 := fun x hx => by
    refine gtD_of ?_
    unfold kas_rev
    rw [getElem?_mirror_all (by rw [hp.sz]; exact hk), if_pos (by omega)]
    congr 1; omega
  rw [g i (by omega), g j hj]
  exact d _ _ (by omega) (by omega)
theorem tail_says (o : OrdB n lt) (hc : Says n lt cmp s) {p : Array Nat} (hp : PmA n p) {k : Nat} (h1 : 1 ≤ k) (hk : k ≤ n) (d : Downs lt p k) {Q : Nat × Array Nat → Shared → Prop}
    (q : ∀ m p', PmA n p' → 1 ≤ m → m ≤ n → Ups lt p' m → Q (m, p') s) : (kas_tail3 k n p).kasWp cmp Q s := by
  unfold kas_tail3
  rw [KasT.kasWp_bind]
  have hp' : PmA n (kas_rev p 0 k) := hp.of_perm (mirror_perm _ _ _ _)
  exact asc_says o hc hp' (n - k) k h1 (by omega) (rev_ups hp hk d) fun m hm hm' u _ => q m _ hp' (by omega) hm' u
theorem part_says (o : OrdB n lt) (hc : Says n lt cmp s) {p : Array Nat} (hp : PmA n p) (h2 : 2 ≤ n) (c : lt (p.getD 1 0) (p.getD 0 0) = true) {Q : Nat × Array Nat → Shared → Prop}
    (q : ∀ m p', PmA n p' → 1 ≤ m → m ≤ n → Ups lt p' m → Q (m, p') s) : (kas_descPart 1 n p).kasWp cmp Q s := by
  unfold kas_descPart
  rw [KasT.kasWp_bind]
  refine desc_says o hc hp (n - 2) 2 (by decide) (by omega) (fun i j hij hj => ?_) fun k hk hk' d => ?_
  · obtain rfl : i = 0 := by omega
    obtain rfl : j = 1 := by omega
    exact c
  · dsimp only
    rw [if_neg (by omega)]
    exact tail_says o hc hp (by omega) hk' d q
theorem count_says (o : OrdB n lt) (hc : Says n lt cmp s) {p : Array Nat} (hp : PmA n p) (h2 : 2 ≤ n) {Q : Nat × Array Nat → Shared → Prop}
    (q : ∀ m p', PmA n p' → 1 ≤ m → m ≤ n → Ups lt p' m → Q (m, p') s) : (kas_count n p).kasWp cmp Q s := by
  unfold kas_count
  rw [KasT.kasWp_bind]
  refine asc_says o hc hp (n - 1) 1 (Nat.le_refl _) (by omega) (fun i j hij hj => by omega) fun k h1 hk u e => ?_
  by_cases hkn : k = n
  · rw [if_pos (by simpa using hkn)]
    exact q k p hp h1 hk u
  rw [if_neg (by simpa using hkn)]
  have e := e.resolve_left hkn
  by_cases hg : k > 1
  · rw [if_pos hg]
    refine hc _ _ _ (hp.lt (by omega)) (hp.lt (by omega)) ?_
    rw [u 0 (k - 1) (by omega) (by omega)]
    dsimp only
    rw [if_pos rfl]
    exact q k p hp h1 hk u
  · rw [if_neg hg]
    obtain rfl : k = 1 := by omega
    exact part_says o hc hp h2 e q
theorem place_says (o : OrdB n lt) (hc : Says n lt cmp s) {p : Array Nat} (hp : PmA n p) {k : Nat} (hk : k < n) (u : Ups lt p k) : ∀ (f l r : Nat) {Q : Nat → Shared → Prop}, l ≤ r → r ≤ k → r - l ≤ f →
    (∀ i, i < l → lt (p.getD i 0) (p.getD k 0) = true) → (∀ i, r ≤ i → i < k → lt (p.getD k 0) (p.getD i 0) = true) →
    (∀ x, x ≤ k → (∀ i, i < x → lt (p.getD i 0) (p.getD k 0) = true) → (∀ i, x ≤ i → i < k → lt (p.getD k 0) (p.getD i 0) = true) → Q x s) → (kas_place p k f l r).kasWp cmp Q s
  | 0, l, r, Q, h1, h2, h3, a, b, q => q l (by omega) a fun i hi => b i (by omega)
  | f + 1, l, r, Q, h1, h2, h3, a, b, q => by
    unfold kas_place
    by_cases hlr : l ≥ r
    · rw [if_pos hlr]
      exact q l (by omega) a fun i hi => b i (by omega)
    rw [if_neg hlr]
    refine hc _ _ _ (hp.lt hk) (hp.lt (by omega)) ?_
    cases c : lt (p.getD k 0) (p.getD ((l + r) / 2) 0) with
    | true =>
      dsimp only
      rw [if_pos rfl]
      refine place_says o hc hp hk u f l ((l + r) / 2) (by omega) (by omega) (by omega) a (fun i hi hik => ?_) q
      by_cases e : i = (l + r) / 2
      · rw [e]; exact c
      · exact o.tr c (u _ i (by omega) hik)
    | false =>
      dsimp only
      rw [if_neg (by decide)]
      have c' := o.to (hp.lt hk) (hp.lt (by omega)) (hp.inj hk (by omega) (by omega)) c
      refine place_says o hc hp hk u f ((l + r) / 2 + 1) r (by omega) h2 (by omega) (fun i hi => ?_) b q
      by_cases e : i = (l + r) / 2
      · rw [e]; exact c'
      · exact o.tr (u i _ (by omega) (by omega)) c'
theorem bub_ups {p : Array Nat} {k x : Nat} (o : OrdB n lt) (hp : PmA n p) (hk : k < n) (u : Ups lt p k) (hx : x ≤ k) (a : ∀ i, i < x → lt (p.getD i 0) (p.getD k 0) = true) (b : ∀ i, x ≤ i → i < k → lt (p.getD k 0) (p.getD i 0) = true) : Ups lt (bubble p k (k - x)) (k + 1) := by
  have g := fun i => getElem?_bubble (xs := p) (src := k) (by rw [hp.sz]; exact hk) (k - x) (by omega) i
  have e : k - (k - x) = x := by omega
  rw [e] at g
  have g1 : ∀ i, i < x → (bubble p k (k - x)).getD i 0 = p.getD i 0 := fun i hi => gtD_of (by rw [g, if_neg (by omega), if_neg (by omega)])
  have g2 : (bubble p k (k - x)).getD x 0 = p.getD k 0 := gtD_of (by rw [g, if_pos rfl])
  have g3 : ∀ i, x < i → i ≤ k → (bubble p k (k - x)).getD i 0 = p.getD (i - 1) 0 := fun i hi hik => gtD_of (by rw [g, if_neg (by omega), if_pos ⟨hi, hik⟩])
  intro i j hij hj
  rcases Nat.lt_trichotomy j x with h | h | h
  · rw [g1 i (by omega), g1 j h]; exact u i j hij (by omega)
  · subst h; rw [g1 i hij, g2]; exact a i hij
  · rw [g3 j h (by omega)]
    rcases Nat.lt_trichotomy i x with h' | h' | h'
    · rw [g1 i h']; exact u i _ (by omega) (by omega)
    · subst h'; rw [g2]; exact b _ (by omega) (by omega)
    · rw [g3 i h' (by omega)]; exact u _ _ (by omega) (by omega)
theorem bin_says (o : OrdB n lt) (hc : Says n lt cmp s) : ∀ (f : Nat) (p : Array Nat) (k : Nat) {Q : Array Nat → Shared → Prop}, PmA n p → k + f = n → Ups lt p k → (∀ p', PmA n p' → Ups lt p' n → Q p' s) → (kas_bin f p k).kasWp cmp Q s
  | 0, p, k, Q, hp, e, u, q => q p hp (by rw [← show k = n by omega]; exact u)
  | f + 1, p, k, Q, hp, e, u, q => by
    unfold kas_bin
    rw [KasT.kasWp_bind]
    refine place_says o hc hp (by omega) u k 0 k (Nat.zero_le _) (Nat.le_refl _) (by omega) (fun i hi => by omega) (fun i h1 h2 => by omega) fun x hx a b => ?_
    exact bin_says o hc f _ (k + 1) (hp.of_perm (bubble_perm _ _ _)) (by omega) (bub_ups o hp (by omega) u hx a b) q
theorem sort_says (o : OrdB n lt) (hc : Says n lt cmp s) (h2 : 2 ≤ n) {Q : Array Nat → Shared → Prop} (q : ∀ p, PmA n p → Ups lt p n → Q p s) : (kas_sort n).kasWp cmp Q s := by
  unfold kas_sort
  rw [KasT.kasWp_bind]
  have h0 : PmA n (List.toArray (List.range n)) := ⟨by simp, by simp⟩
  refine count_says o hc h0 h2 fun m p hp h1 hm u => ?_
  by_cases hmn : m < n
  · rw [if_pos hmn]
    have e : max m 1 = m := by omega
    show (kas_bin (n - max m 1) p (max m 1)).kasWp cmp Q s
    rw [e]
    exact bin_says o hc (n - m) p m hp (by omega) u q
  · rw [if_neg hmn]
    obtain rfl : m = n := by omega
    exact q p hp u
end
end L3

namespace L3
open PySem PySem.Spec PyProof.Rows L2 PySem.W
section
variable {prog : Program} {w : World} {A : Around} {E : Value → Shared → Prop} {s : Shared}
def Asks (prog : Program) (w : World) (A : Around) (s : Shared) (a : Addr) (vs : List Value) (lt : Nat → Nat → Bool) : Prop := ∃ κ, ∀ h' : Heap, (∀ b ob, b ≠ a → s.heap.get? b = some ob → h'.get? b = some ob) →
  (∀ (Q : SortKind → Shared → Prop) (E' : Value → Shared → Prop), Q κ { s with heap := h' } → wpAny (model prog w) A (keyKind' vs.toArray) Q E' { s with heap := h' }) ∧ Says vs.length lt (kas_ask prog w A κ vs) { s with heap := h' }
theorem getD_self (vs : List Value) : ((List.range vs.length).map fun i => vs.getD i Value.none) = vs := by
  refine List.ext_getElem? fun i => ?_
  rw [List.getElem?_map]
  by_cases h : i < vs.length
  · rw [List.getElem?_range h]
    show some (vs.getD i Value.none) = _
    rw [List.getD_eq_getElem?_getD, List.getElem?_eq_getElem h]; rfl
  · rw [List.getElem?_eq_none (by rw [List.length_range]; omega), List.getElem?_eq_none (by omega)]; rfl
theorem sort_asks {a : Addr} {vs : List Value} {n : Nat} {P : PySem.Fin → Shared → Prop} {lt : Nat → Nat → Bool} (here : s.heap.get? a = some (seqObj "list" vs.toArray n)) (few : vs.length < 64) (o : OrdB vs.length lt) (asks : 2 ≤ vs.length → Asks prog w A s a vs lt)
    (fin : ∀ p, PmA vs.length p → Ups lt p vs.length → P (.done (.ret .none)) { s with heap := sortedHeap s.heap a vs (List.toArray (p.toList.map fun i => vs.getD i Value.none)) }) :
    wpAny (model prog w) A (Builtin.«list.sort» ⟨[.ref a], []⟩) P E s := by
  have low : a < s.heap.objs.size := Heap.lt_size here
  obtain ⟨ep, emp⟩ : ∃ ep, (s.heap.update a (Obj.mapSeq fun _ => (#[] : Array Value))).get? a = some (seqObj "list" #[] ep) := ⟨_, get?_update_seq here fun _ => #[]⟩
  have big : sizeLine = sizeLine := rfl
  have fits : vs.length ≤ sizeLine := by have := sizeLine_eq; omega
  have empty : (((s.heap.update a (Obj.mapSeq fun _ => (#[] : Array Value))).push (seqObj "tuple" vs.toArray 0)).push (seqObj "list" #[] 0)).get? a = some (seqObj "list" #[] ep) := Heap.get?_push_of_some _ (Heap.get?_push_of_some _ emp)
  have old : ∀ b ob, b ≠ a → s.heap.get? b = some ob → (((s.heap.update a (Obj.mapSeq fun _ => (#[] : Array Value))).push (seqObj "tuple" vs.toArray 0)).push (seqObj "list" #[] 0)).get? b = some ob := fun b ob ne e =>
    Heap.get?_push_of_some _ (Heap.get?_push_of_some _ (by rw [Heap.get?_update_ne _ _ _ _ ne]; exact e))
  rw [list_sort_plain]
  refine wpAny_bind (listItems_at here rfl (wpAny_bind (listUpdate_at here rfl ?_ (by rw [List.size_toArray]; exact fits) (Nat.zero_le _))))
  refine wpAny_bind (seqEpoch_at emp rfl (wpAny_bind (wpAny_newTuple ?_ (by show vs.length ≤ _; exact fits))))
  refine wpAny_bind (wpAny_newList (wpAny_holding ?_) (Nat.zero_le _))
  show wpAny (model prog w) A _ P E { s with heap := ((s.heap.update a (Obj.mapSeq fun _ => (#[] : Array Value))).push (seqObj "tuple" vs.toArray 0)).push (seqObj "list" #[] 0), toks := s.toks }
  have sz : vs.toArray.size = vs.length := by simp
  by_cases h2 : vs.toArray.size < 2
  · rw [if_pos h2, if_pos h2]
    refine wpAny_bind (wpAny_pure ?_)
    dsimp only
    rw [StateT.run_pure]
    refine wpAny_bind (wpAny_pure (wpAny_bind (seqEpoch_at empty rfl (wpAny_bind (listUpdate_at empty rfl ?_ (Nat.zero_le _) ?_)))))
    · have f := fin (List.toArray (List.range vs.length)) ⟨by simp, by simp⟩ (fun i j hij hj => by omega)
      have e : (List.toArray ((List.toArray (List.range vs.length)).toList.map fun i => vs.getD i Value.none)) = (vs.toArray.zip vs.toArray).map (·.2) := by
        apply Array.toList_inj.mp
        rw [Array.toList_map]
        show (List.range vs.length).map (fun i => vs.getD i Value.none) = _
        rw [getD_self, Array.toList_zip]
        show vs = (vs.zip vs).map Prod.snd
        rw [List.map_snd_zip (Nat.le_refl _)]
      rw [e] at f
      have ne : (ep != ep) = false := by simp
      show wpAny _ _ _ P E _
      simp only [ne, Bool.false_eq_true, if_false]
      exact wpAny_pure f
    · show ((vs.toArray.zip vs.toArray).map (·.2)).size ≤ _
      rw [Array.size_map, Array.size_zip, sz]; omega
  have h2' : 2 ≤ vs.length := by omega
  obtain ⟨κ, ok⟩ := asks h2'
  obtain ⟨kd, says⟩ := ok _ old
  rw [if_neg h2, if_neg h2]
  refine wpAny_bind (kd _ _ ?_)
  refine wpAny_bind (wpAny_mono (kat_run (ks := vs) (Q := fun st' s' => s' = { s with heap := ((s.heap.update a (Obj.mapSeq fun _ => (#[] : Array Value))).push (seqObj "tuple" vs.toArray 0)).push (seqObj "list" #[] 0) } ∧ failedOf st' = none ∧ ∃ p, PmA vs.length p ∧ Ups lt p vs.length ∧ (arrOf st').map (·.2) = List.toArray (p.toList.map fun i => vs.getD i Value.none)) (G := fun p s' => s' = { s with heap := ((s.heap.update a (Obj.mapSeq fun _ => (#[] : Array Value))).push (seqObj "tuple" vs.toArray 0)).push (seqObj "list" #[] 0) } ∧ PmA vs.length p ∧ Ups lt p vs.length) rfl h2' few
    (fun p st' s' _ har hf g => ⟨g.1, hf, p, g.2.1, g.2.2, kat_snds rfl har⟩) (sort_says o says h2' fun p hp u => ⟨rfl, hp, u⟩)) ?_ fun _ _ e => e)
  rintro ⟨⟨⟩, st'⟩ s' ⟨rfl, hf, p, hp, u, out⟩
  refine wpAny_bind (seqEpoch_at empty rfl (wpAny_bind (listUpdate_at empty rfl ?_ (Nat.zero_le _) ?_)))
  · have f := fin p hp u
    rw [← out] at f
    show wpAny _ _ _ P E _
    have ne : (ep != ep) = false := by simp
    have hf' : failedOf st' = none := hf
    dsimp only
    rw [hf']
    simp only [ne, Bool.false_eq_true, if_false]
    exact wpAny_pure f
  · show ((arrOf st').map (·.2)).size ≤ _
    rw [out, List.size_toArray, List.length_map, Array.length_toList, hp.sz]; omega
end
end L3

namespace L3
open PySem PySem.Spec PyProof.Rows L2 PySem.W
def ltL : List Int → List Int → Bool
  | [], [] => false
  | [], _ :: _ => true
  | _ :: _, [] => false
  | a :: as, b :: bs => if a = b then ltL as bs else decide (a < b)
theorem ltL_tr : ∀ {a b c : List Int}, ltL a b = true → ltL b c = true → ltL a c = true
  | [], [], _, h, _ => nomatch h
  | [], _ :: _, [], _, h => nomatch h
  | [], _ :: _, _ :: _, _, _ => rfl
  | _ :: _, [], _, h, _ => nomatch h
  | _ :: _, _ :: _, [], _, h => nomatch h
  | a :: as, b :: bs, c :: cs, h, k => by
    unfold ltL at h k ⊢
    by_cases e : a = b
    · subst e
      rw [if_pos rfl] at h
      by_cases e' : a = c
      · rw [if_pos e'] at k ⊢; exact ltL_tr h k
      · rw [if_neg e'] at k ⊢; exact k
    · rw [if_neg e] at h
      have h := of_decide_eq_true h
      by_cases e' : b = c
      · subst e'; rw [if_neg e]; exact decide_eq_true h
      · rw [if_neg e'] at k
        have k := of_decide_eq_true k
        rw [if_neg (by omega)]; exact decide_eq_true (by omega)
theorem ltL_as : ∀ {a b : List Int}, ltL a b = true → ltL b a = false
  | [], [], h => nomatch h
  | [], _ :: _, _ => rfl
  | _ :: _, [], h => nomatch h
  | a :: as, b :: bs, h => by
    unfold ltL at h ⊢
    by_cases e : a = b
    · subst e; rw [if_pos rfl] at h ⊢; exact ltL_as h
    · rw [if_neg e] at h; rw [if_neg (Ne.symm e)]
      have h := of_decide_eq_true h
      exact decide_eq_false (by omega)
theorem ltL_to : ∀ {a b : List Int}, a ≠ b → ltL a b = false → ltL b a = true
  | [], [], h, _ => absurd rfl h
  | [], _ :: _, _, h => nomatch h
  | _ :: _, [], _, _ => rfl
  | a :: as, b :: bs, n, h => by
    unfold ltL at h ⊢
    by_cases e : a = b
    · subst e; rw [if_pos rfl] at h ⊢; exact ltL_to (fun z => n (by rw [z])) h
    · rw [if_neg e] at h; rw [if_neg (Ne.symm e)]
      have h := of_decide_eq_false h
      exact decide_eq_true (by omega)
theorem ltL_irr {a : List Int} : ltL a a = false := by
  cases h : ltL a a with
  | false => rfl
  | true => have := ltL_as h; rw [h] at this; cases this
theorem ltL_uniq : ∀ {a b : List (List Int)}, a.Pairwise (fun x y => ltL x y = true) → b.Pairwise (fun x y => ltL x y = true) → a.Perm b → a = b
  | [], b, _, _, p => (List.Perm.nil_eq p)
  | x :: xs, [], _, _, p => absurd p.length_eq (by simp)
  | x :: xs, y :: ys, ha, hb, p => by
    obtain ⟨a1, a2⟩ := List.pairwise_cons.mp ha
    obtain ⟨b1, b2⟩ := List.pairwise_cons.mp hb
    have e : x = y := by
      by_cases e : x = y
      · exact e
      · have hx : x ∈ ys := (List.mem_cons.mp (p.mem_iff.mp List.mem_cons_self)).resolve_left e
        have hy : y ∈ xs := (List.mem_cons.mp (p.mem_iff.mpr List.mem_cons_self)).resolve_left (Ne.symm e)
        have := ltL_as (a1 y hy)
        rw [b1 x hx] at this; cases this
    subst e
    rw [ltL_uniq a2 b2 ((List.perm_cons x).mp p)]
section
variable {prog : Program} {w : World} {A : Around} {E : Value → Shared → Prop} {s : Shared} {b fin : Bool} {Q : Bool → Shared → Prop}
theorem lex_ints : ∀ {us vs : List Value} {as bs : List Int} (i : Nat), IntsAre us as → IntsAre vs bs → fin = decide (as.length < bs.length) → Q (ltL as bs) s → KatLex prog w A b fin Q (us.zip vs) i s
  | _, _, _, _, i, .nil, .nil, e, q => by rw [e]; exact kat_nil q
  | _, _, _, _, i, .nil, .cons _ _ _, e, q => by rw [e]; exact kat_nil (by simpa [ltL] using q)
  | _, _, _, _, i, .cons _ _ _, .nil, e, q => by rw [e]; exact kat_nil (by simpa [ltL] using q)
  | _, _, _, _, i, .cons x t hx, .cons y u hy, e, q => by
    rename_i us as vs bs
    rw [List.zip_cons_cons]
    refine kat_cons (wpAny_eqBool_int (kat_go (fun h => ?_) fun h => ?_))
    · have h := eq_of_beq h
      subst h
      refine kat_yes (lex_ints (i + 1) hx hy (by rw [e]; simp) ?_)
      unfold ltL at q
      rw [if_pos rfl] at q
      exact q
    · have h := ne_of_beq_false h
      unfold ltL at q
      rw [if_neg h] at q
      refine kat_no ?_
      cases (b && i == 0) with
      | true => exact oneLt_int q
      | false => exact kat_one _ _ (PyProof.Rows.lt_int (show PySem.W.BoolBack Q (.bool (decide (x < y))) s from q))
structure RowAt (h : Heap) (v : Value) (row : List Int) (x : Addr) (ob : Obj) (its : Array Value) (n : Nat) : Prop where
  e : v = .ref x
  g : h.get? x = some ob
  c : ob.cls = .type "tuple"
  d : ob.data = .seq its n
  i : IntsAre its.toList row
def Row1 (h : Heap) (v : Value) (row : List Int) : Prop := ∃ x ob its n, RowAt h v row x ob its n
inductive Rows (h : Heap) : List Value → List (List Int) → Prop
  | nil : Rows h [] []
  | cons {v vs row rows} : Row1 h v row → Rows h vs rows → Rows h (v :: vs) (row :: rows)
theorem Rows.len {h : Heap} : ∀ {vs rows}, Rows h vs rows → vs.length = rows.length
  | _, _, .nil => rfl
  | _, _, .cons _ t => congrArg (· + 1) t.len
theorem Rows.get {h : Heap} : ∀ {vs rows} {i : Nat}, Rows h vs rows → i < vs.length → Row1 h (vs.getD i Value.none) (rows.getD i [])
  | _, _, _, .nil, hi => absurd hi (by simp)
  | _, _, 0, .cons r _, _ => r
  | _, _, i + 1, .cons _ t, hi => by
    have := t.get (i := i) (by simpa using hi)
    exact this
theorem Rows.old {h h' : Heap} (k : ∀ x ob, h.get? x = some ob → h'.get? x = some ob) : ∀ {vs rows}, Rows h vs rows → Rows h' vs rows
  | _, _, .nil => .nil
  | _, _, .cons ⟨x, ob, its, n, r⟩ t => .cons ⟨x, ob, its, n, r.e, k _ _ r.g, r.c, r.d, r.i⟩ (t.old k)
theorem Rows.tups {h : Heap} : ∀ {vs rows}, Rows h vs rows → (∀ r ∈ rows, r ≠ []) → ∃ fs, KatTups h vs fs ∧ fs.length = vs.length ∧ ∀ f ∈ fs, ∃ n t, f = Value.int n t
  | _, _, .nil, _ => ⟨[], .nil, rfl, fun f hf => absurd hf (by simp)⟩
  | _, _, .cons ⟨x, ob, its, n, r⟩ t, ne => by
    rename_i v vs row rows
    obtain ⟨fs, k, l, a⟩ := t.tups fun r hr => ne r (List.mem_cons_of_mem _ hr)
    have hne := ne row List.mem_cons_self
    obtain ⟨f, hf, n', t', rfl⟩ : ∃ f, its[0]? = some f ∧ ∃ n t, f = Value.int n t := by
      have hi := r.i
      rw [← Array.getElem?_toList]
      revert hi
      generalize its.toList = us
      intro hi
      cases hi with
      | nil => exact absurd rfl hne
      | cons n t _ => exact ⟨_, rfl, n, t, rfl⟩
    obtain rfl := r.e
    exact ⟨Value.int n' t' :: fs, .cons r.g r.c r.d hf k, congrArg (· + 1) l, fun f hf => by
      rcases List.mem_cons.mp hf with rfl | hf
      · exact ⟨n', t', rfl⟩
      · exact a f hf⟩
theorem rows_ord {rows : List (List Int)} (nd : rows.Nodup) : OrdB rows.length (fun i j => ltL (rows.getD i []) (rows.getD j [])) where
  tr := ltL_tr
  as := ltL_as
  to := fun {i j} hi hj hne h => by
    refine ltL_to (fun z => hne ?_) h
    have e : ∀ {i : Nat} (h : i < rows.length), rows.getD i [] = rows[i] := fun h => by rw [List.getD_eq_getElem?_getD, List.getElem?_eq_getElem h]; rfl
    rw [e hi, e hj] at z
    exact (List.getElem_inj nd).mp z
theorem rows_asks {vs : List Value} {rows : List (List Int)} {a : Addr} (r : Rows s.heap vs rows) (ne : ∀ r ∈ rows, r ≠ []) (ha : ∀ x ob, s.heap.get? x = some ob → (∃ v ∈ vs, v = .ref x) → x ≠ a) (h2 : 2 ≤ vs.length) : Asks prog w A s a vs (fun i j => ltL (rows.getD i []) (rows.getD j [])) := by
  refine ⟨tuples' (Value.type "int" != Value.type "tuple"), fun h' k => ?_⟩
  have r' : Rows h' vs rows := by
    have go : ∀ {vs' rows'}, Rows s.heap vs' rows' → (∀ v ∈ vs', v ∈ vs) → Rows h' vs' rows' := by
      intro vs' rows' q
      induction q with
      | nil => intro _; exact .nil
      | cons q t ih =>
        intro sub
        obtain ⟨x, ob, its, n, q⟩ := q
        exact .cons ⟨x, ob, its, n, q.e, k x ob (ha x ob q.g ⟨_, sub _ List.mem_cons_self, q.e⟩) q.g, q.c, q.d, q.i⟩ (ih fun v hv => sub v (List.mem_cons_of_mem _ hv))
    exact go r fun v hv => hv
  obtain ⟨fs, kt, fl, fi⟩ := r'.tups ne
  refine ⟨fun Q E' q => kat_kind (s := { s with heap := h' }) (T := .type "int") kt (by omega) (fun v hv => ?_) (by simp) q, fun i j C hi hj c => ?_⟩
  · obtain ⟨n, t, rfl⟩ := fi v hv
    exact Looks.of_pure rfl
  · obtain ⟨x, ox, xs, n, p⟩ := r'.get hi
    obtain ⟨y, oy, ys, m, q⟩ := r'.get hj
    unfold kas_ask
    rw [p.e, q.e]
    have l1 : xs.toList.length = (rows.getD i []).length := by have := (vals_ints p.i).length; rw [List.length_map] at this; exact this.symm
    have l2 : ys.toList.length = (rows.getD j []).length := by have := (vals_ints q.i).length; rw [List.length_map] at this; exact this.symm
    refine kat_lt (s := { s with heap := h' }) p.g p.d q.g q.d (lex_ints 0 p.i q.i ?_ c)
    rw [← l1, ← l2, Array.length_toList, Array.length_toList]
end
section
variable {X : Cx} {K : PySem.W.Frag}
theorem rows_of {pins : List (Addr × Obj)} {σ : L2.St} {H : Hp} {s : Shared} (I : Inv X pins σ H s) : ∀ {zs : List V} {rows : List (List Int)} {vs : List Value}, AllR (BoardAt X.K H) zs rows → Vals zs vs → Rows s.heap vs rows
  | [], [], _, _, .nil => .nil
  | z :: zs, row :: rows, _, ⟨h, t⟩, .cons r rs => by
    obtain ⟨b, rfl, hb⟩ := h
    obtain ⟨its, rv, ⟨ob, eo, ec, m, ed⟩, _⟩ := I.tuple hb
    refine .cons ⟨b, ob, its.toArray, m, r, eo, ec, ed, ?_⟩ (rows_of I t rs)
    show IntsAre its row
    exact intsAre_of rv
  | [], _ :: _, _, h, _ => h.elim
  | _ :: _, [], _, h, _ => h.elim
theorem pick_perm {α : Type} {l : List α} {d : α} {is : List Nat} (h : is.Perm (List.range l.length)) : (is.map fun i => l.getD i d).Perm l := by
  refine (h.map _).trans ?_
  have e : (List.range l.length).map (fun i => l.getD i d) = l := by
    refine List.ext_getElem? fun i => ?_
    rw [List.getElem?_map]
    by_cases h : i < l.length
    · rw [List.getElem?_range h]
      show some (l.getD i d) = _
      rw [List.getD_eq_getElem?_getD, List.getElem?_eq_getElem h]; rfl
    · rw [List.getElem?_eq_none (by rw [List.length_range]; omega), List.getElem?_eq_none (by omega)]; rfl
  rw [e]
end
end L3

namespace L3
open PySem PySem.Spec PyProof.Rows L2 PySem.W
section
variable {prog : Program} {w : World} {A : Around} {E : Value → Shared → Prop} {s : Shared}
theorem coll_lst43 {l : Addr} {us : List Value} {Q : List Value → Shared → Prop} (tu : s.heap.IsList l us.toArray) (hu : us.length ≤ sizeLine)
    (q : Q us { s with heap := (s.heap.push (seqObj "list" #[] 0)).update s.heap.objs.size (Obj.mapSeq (· ++ us.toArray)) }) : wpAny (model prog w) A (collect (.ref l)) Q E s := by
  obtain ⟨ob, eo, ec, m, ed⟩ := id tu
  have eo2 : (s.heap.push (seqObj "list" #[] 0)).get? l = some ob := Heap.get?_push_of_some _ eo
  unfold collect
  refine wpAny_bind (wpAny_runValue (codeAny_builtin entry_proto_collect' (show wpAny _ _ (do again (.builtin "list.__iadd__" ⟨[← newList [], .ref l], []⟩)) _ _ s from ?_)))
  refine wpAny_bind (wpAny_newList (wpAny_pure ⟨Code.quiet_builtin _ (by decide +kernel), codeAny_builtin entry_list_iadd' (show wpAny _ _ (Builtin.List.listExtendWith (.ref s.heap.objs.size) (.ref l) (.ref s.heap.objs.size)) _ _ { s with heap := s.heap.push (seqObj "list" #[] 0) } from ?_)⟩))
  unfold Builtin.List.listExtendWith
  refine wpAny_bind (wpAny_typeOf (T := "list") ⟨ob, eo2, ec⟩ ?_)
  have k1 : (Value.type "list" == Value.type "list") = true := rfl
  rw [if_pos (by simp [k1])]
  refine wpAny_bind (listItems_at eo2 ed (wpAny_bind (listItems_at (xs := #[]) (n := 0) (Heap.get?_push_size _ rfl) rfl ?_)))
  rw [if_neg (by simp)]
  refine wpAny_bind (listUpdate_at (xs := #[]) (n := 0) (Heap.get?_push_size _ rfl) rfl (wpAny_pure ?_) (Nat.zero_le _) (by show (#[] ++ us.toArray).size ≤ sizeLine + 1; simp only [Array.size_append, List.size_toArray, List.length_nil]; omega))
  refine wpAny_bind (wpAny_load (get?_update_seq (Heap.get?_push_size _ rfl) _) ?_)
  show wpAny _ _ (pure ((#[] : Array Value) ++ us.toArray).toList) Q E _
  rw [show ((#[] : Array Value) ++ us.toArray).toList = us by simp]
  exact wpAny_pure q
theorem sorted_asks43 {l : Addr} {vs : List Value} {Q : Value → Shared → Prop} {lt : Nat → Nat → Bool} (tu : s.heap.IsList l vs.toArray) (few : vs.length < 64) (o : OrdB vs.length lt)
    (asks : 2 ≤ vs.length → ∀ s' : Shared, (∀ b ob, s.heap.get? b = some ob → s'.heap.get? b = some ob ∧ b ≠ s.heap.objs.size + 1) → Asks prog w A.in1.in1 s' (s.heap.objs.size + 1) vs lt)
    (fin : ∀ p, PmA vs.length p → Ups lt p vs.length → Q (.ref (s.heap.objs.size + 1)) { s with heap := sortedAll s.heap vs (List.toArray (p.toList.map fun i => vs.getD i Value.none)) }) :
    wpAny (model prog w) A (call (.builtin "sorted") [.ref l]) Q E s := by
  refine Calls.call_function_entry kind_sorted plain_sorted entry_sorted (args_sorted1 _) ?_
  unfold Builtin.«sorted»
  refine wpAny_bind (m := checkCount "sorted" 1 1 _) (wpAny_pure (wpAny_bind (coll_lst43 tu (by rw [sizeLine_eq]; omega) (wpAny_bind (wpAny_newList ?_ (by rw [sizeLine_eq]; omega))))))
  have e1 : ((s.heap.push (seqObj "list" #[] 0)).update s.heap.objs.size (Obj.mapSeq (· ++ vs.toArray))).objs.size = s.heap.objs.size + 1 := by rw [Heap.size_update, size_push']
  have e2 : (((s.heap.push (seqObj "list" #[] 0)).update s.heap.objs.size (Obj.mapSeq (· ++ vs.toArray))).push (seqObj "list" vs.toArray 0)).get? (s.heap.objs.size + 1) = some (seqObj "list" vs.toArray 0) := by
    rw [← e1]; exact Heap.get?_push_size _ rfl
  show wpAny _ _ _ _ _ { s with heap := ((s.heap.push (seqObj "list" #[] 0)).update s.heap.objs.size (Obj.mapSeq (· ++ vs.toArray))).push (seqObj "list" vs.toArray 0) }
  rw [e1]
  refine wpAny_bind (wpAny_holding (wpAny_call_entry slot_list_sort ⟨_, e2, rfl⟩ entry_list_sort (sort_asks (s := { s with heap := ((s.heap.push (seqObj "list" #[] 0)).update s.heap.objs.size (Obj.mapSeq (· ++ vs.toArray))).push (seqObj "list" vs.toArray 0) }) e2 few o (fun h2 => asks h2 _ fun b ob e => ⟨?_, ?_⟩) fun p hp u => ⟨_, rfl, wpAny_pure ⟨_, rfl, fin p hp u⟩⟩) (args_list_sort _)))
  · have lo : b < s.heap.objs.size := Heap.lt_size e
    refine Heap.get?_push_of_some _ ?_
    rw [Heap.get?_update_ne _ _ _ _ (Nat.ne_of_lt lo)]
    exact Heap.get?_push_of_some _ e
  · exact Nat.ne_of_lt (Nat.lt_succ_of_lt (Heap.lt_size e))
end
section
variable {X : Cx} {K : PySem.W.Frag}
def rSort43 (K : PySem.W.Frag) : List V → Hp → VK → Prop := fun xs H Q => ∃ (l : Addr) (zs : List V) (rows : List (List Int)), xs = [.ref l] ∧ SqL K H l zs ∧ AllR (BoardAt K H) zs rows ∧ rows.Nodup ∧ (∀ r ∈ rows, r ≠ []) ∧ rows.length < 64 ∧
  ∀ (p : Addr) (zs' : List V) (rows' : List (List Int)), H p = none → rows'.Perm rows → rows'.Pairwise (fun x y => ltL x y = true) → AllR (BoardAt K H) zs' rows' → Q (.ref p) (upd H p (.lst zs'))
theorem call_sort43 (hK : X.K = K) : CallR X (.builtin "sorted") (rSort43 K) := by
  subst hK
  intro pins s σ H xs us Q I r h
  obtain ⟨l, zs, rows, rfl, hl, hr, nd, ne, few, q⟩ := h
  obtain ⟨u, rfl, rx⟩ := vals1 r
  cases (show u = Value.ref l from rx)
  obtain ⟨vs, rv, pl, hz⟩ := I.list hl
  have e1 := rv.length
  have e2 := hr.len
  have R := rows_of I hr rv
  have e3 := R.len
  have o := rows_ord nd
  rw [← e3] at o
  refine sorted_asks43 pl.isList (by omega) o (fun h2 s' k => rows_asks (R.old fun x ob e => (k x ob e).1) ne (fun x ob e ⟨v, hv, ev⟩ => ?_) h2) fun p hp u => ?_
  · subst ev
    obtain ⟨i, hi, ei⟩ := List.getElem_of_mem hv
    obtain ⟨x', ob', its, n, p⟩ := R.get hi
    have ex : vs.getD i Value.none = .ref x := by rw [List.getD_eq_getElem?_getD, List.getElem?_eq_getElem hi, ei]; rfl
    rw [ex] at p
    cases p.e
    exact (k _ _ p.g).2
  · obtain ⟨e, he⟩ := sortedAll_at s.heap vs (List.toArray (p.toList.map fun i => vs.getD i Value.none))
    have hn : H (s.heap.objs.size + 1) = none := I.hok.fresh (Nat.le_succ _)
    have mem : ∀ i ∈ p.toList, i < vs.length := fun i hi => List.mem_range.mp (hp.pm.mem_iff.mp hi)
    have rl : ∀ is : List Nat, (∀ i ∈ is, i < vs.length) → Vals (is.map fun i => zs.getD i .non) (is.map fun i => vs.getD i Value.none) := by
      intro is
      induction is with
      | nil => intro _; exact .nil
      | cons i is ih =>
        intro hm
        have hi := hm i List.mem_cons_self
        refine .cons ?_ (ih fun j hj => hm j (List.mem_cons_of_mem _ hj))
        obtain ⟨u, hu, ru⟩ := rv.get (List.getElem?_eq_getElem (show i < zs.length by omega))
        dsimp only
        rw [List.getD_eq_getElem?_getD, List.getD_eq_getElem?_getD, hu, List.getElem?_eq_getElem (show i < zs.length by omega)]
        exact ru
    have al : ∀ is : List Nat, (∀ i ∈ is, i < vs.length) → AllR (BoardAt X.K H) (is.map fun i => zs.getD i .non) (is.map fun i => rows.getD i []) := by
      intro is
      induction is with
      | nil => intro _; trivial
      | cons i is ih =>
        intro hm
        have hi := hm i List.mem_cons_self
        refine ⟨?_, ih fun j hj => hm j (List.mem_cons_of_mem _ hj)⟩
        obtain ⟨row, hrow, br⟩ := hr.get (List.getElem?_eq_getElem (show i < zs.length by omega))
        dsimp only
        rw [List.getD_eq_getElem?_getD, List.getD_eq_getElem?_getD, hrow, List.getElem?_eq_getElem (show i < zs.length by omega)]
        exact br
    have hpm : p.toList.Perm (List.range rows.length) := by rw [← e3]; exact hp.pm
    have pw : (p.toList.map fun i => rows.getD i []).Pairwise (fun x y => ltL x y = true) := by
      rw [List.pairwise_map, List.pairwise_iff_getElem]
      intro i j hi hj hij
      have g : ∀ {i : Nat} (h : i < p.toList.length), p.getD i 0 = p.toList[i] := fun {i} h => by
        have h' : i < p.size := by simpa using h
        simp [Array.getD, h']
      have := u i j hij (by rw [← hp.sz, ← Array.length_toList]; exact hj)
      rw [g hi, g hj] at this
      exact this
    refine ⟨.ref (s.heap.objs.size + 1), _, ?_, rfl, q _ (p.toList.map fun i => zs.getD i .non) _ hn (pick_perm hpm) pw (al _ mem)⟩
    refine I.laid (t' := s.toks) (fun b o q => sortedAll_old q) (Nat.le_succ _) (show ObjOk X.prog X.w _ _ _ (.lst (p.toList.map fun i => zs.getD i .non)) from ⟨by rw [List.length_map, Array.length_toList, hp.sz]; have := sizeLine_eq; omega, _, e, rl _ mem, he⟩)
end
end L3

namespace L3
open PySem PySem.Spec PyProof.Rows L2
def Adds (ks : List Ask) : Prop := ∀ a ∈ ks, a.deed.lo = none ∧ a.deed.hi = none
def sumA (as : List Ask) : Int := (as.map (·.deed.add)).sum
def rowsT (v : Int) : List Ask → List (List Int)
  | [] => []
  | a :: as => [v, a.deed.add] :: rowsT (v + a.deed.add) as
theorem mk_add {d : Deed} {v : Int} (h : d.lo = none ∧ d.hi = none) : d.mk' v = v + d.add := by
  unfold Deed.mk'; rw [h.1, h.2]; rfl
theorem run_add : ∀ {as : List Ask} {v : Int}, Adds as → runR v as = v + sumA as
  | [], v, _ => by show v = v + 0; omega
  | a :: as, v, h => by
    show runR (a.deed.mk' v) as = v + (a.deed.add + sumA as)
    rw [mk_add (h a (by simp)), run_add fun c hc => h c (by simp [hc])]; omega
section
variable {k m : Nat} {rows : List (List Int)} {ks : List Ask} {bd : Nat → Int}
theorem arr_mem (k4 : k ≤ 4) (hs : SetOk k rows) (R : RndOk k m ks) {j : Nat} {a : Ask} : a ∈ arrR k rows ks k (j % 2 ^ k) j ↔ a ∈ ks.filter fun a => decide (a.box = (j : Int)) := by
  rw [← due_at k4 hs]
  constructor
  · intro h
    obtain ⟨h1, h2⟩ := List.mem_filter.mp h
    exact List.mem_filter.mpr ⟨due_ks h1, h2⟩
  · intro h
    obtain ⟨h1, h2⟩ := List.mem_filter.mp h
    exact List.mem_filter.mpr ⟨due_mem k4 hs R h1, h2⟩
theorem arr_perm (k4 : k ≤ 4) (hs : SetOk k rows) (R : RndOk k m ks) {j : Nat} : (arrR k rows ks k (j % 2 ^ k) j).Perm (ks.filter fun a => decide (a.box = (j : Int))) := by
  have ndk : ks.Nodup := List.Pairwise.of_map (f := (·.hand)) (S := (· ≠ ·)) (fun a b h z => h (by rw [z])) R.nd
  exact (List.perm_ext_iff_of_nodup (nodup_arr k4 hs R) (ndk.filter _)).mpr fun a => arr_mem k4 hs R
theorem ans_pre (k4 : k ≤ 4) (hs : SetOk k rows) (R : RndOk k m ks) {a : Ask} {j : Nat} {pre post : List Ask} (ha : a ∈ ks) (hj : a.box = (j : Int)) (e : arrR k rows ks k (j % 2 ^ k) j = pre ++ a :: post) : stvR k rows ks bd k a.hand.toNat a.box.toNat = runR (bd j) pre := by
  have hh := R.hand a ha
  have hl : a.hand.toNat < 2 ^ k := hand_nat41 hh.1 hh.2
  have ej : a.box.toNat = j := by rw [hj]; rfl
  have e0 : arrR k rows ks (k - k) a.hand.toNat j = [a] := by
    rw [Nat.sub_self]
    show (ks.filter fun c => decide (c.hand = ((a.hand.toNat : Nat) : Int) ∧ c.box = (j : Int))) = [a]
    rw [Int.toNat_of_nonneg hh.1, ← hj, one_of R.nd, find_of41 R.nd ha]; rfl
  obtain ⟨p', q', e1, e2⟩ := stv_pre (bd := bd) R k4 hs (b := j) k (Nat.le_refl k) a.hand.toNat hl (by rw [e0]; exact fun z => nomatch z)
  rw [e0] at e1
  rw [ej, e2]
  have nd := nodup_arr (j := j) k4 hs R
  rw [e] at nd
  have e5 : pre ++ a :: post = p' ++ a :: q' := by rw [← e, e1, List.append_assoc]; rfl
  rw [split_inj nd e5]
theorem told_rows (k4 : k ≤ 4) (hs : SetOk k rows) (R : RndOk k m ks) (P : Adds ks) {j : Nat} : ∀ (T pre : List Ask), arrR k rows ks k (j % 2 ^ k) j = pre ++ T → (T.map fun a => [stvR k rows ks bd k a.hand.toNat a.box.toNat, a.deed.add]) = rowsT (runR (bd j) pre) T
  | [], _, _ => rfl
  | a :: T, pre, e => by
    have hm : a ∈ arrR k rows ks k (j % 2 ^ k) j := by rw [e]; simp
    obtain ⟨ha, hb⟩ := List.mem_filter.mp ((arr_mem k4 hs R).mp hm)
    rw [List.map_cons, ans_pre (bd := bd) k4 hs R ha (of_decide_eq_true hb) e]
    have ih := told_rows k4 hs R P T (pre ++ [a]) (by rw [e, List.append_assoc]; rfl)
    rw [ih, runR_append]
    show _ = [runR (bd j) pre, a.deed.add] :: rowsT (runR (bd j) pre + a.deed.add) T
    rw [show runR (runR (bd j) pre) [a] = a.deed.mk' (runR (bd j) pre) from rfl, mk_add (P a ha)]
def ownR (k : Nat) (rows : List (List Int)) (ks : List Ask) (bd : Nat → Int) (j : Nat) : List (List Int) := (ks.filter fun a => decide (a.box = (j : Int))).map fun a => [stvR k rows ks bd k a.hand.toNat a.box.toNat, a.deed.add]
theorem own_perm (k4 : k ≤ 4) (hs : SetOk k rows) (R : RndOk k m ks) (P : Adds ks) {j : Nat} : (ownR k rows ks bd j).Perm (rowsT (bd j) (arrR k rows ks k (j % 2 ^ k) j)) := by
  have h := told_rows (bd := bd) (j := j) k4 hs R P _ [] rfl
  rw [show runR (bd j) [] = bd j from rfl] at h
  rw [← h]
  exact ((arr_perm k4 hs R).map _).symm
end
theorem rowsT_len : ∀ {T : List Ask} {v : Int}, (rowsT v T).length = T.length
  | [], _ => rfl
  | _ :: T, _ => congrArg (· + 1) (rowsT_len (T := T))
theorem rowsT_step {c : Int} : ∀ {T : List Ask} {v : Int}, (∀ a ∈ T, a.deed.add = c) → ((rowsT v T).map fun r => r.getD 0 0) = (List.range T.length).map fun i : Nat => v + (i : Int) * c
  | [], _, _ => rfl
  | a :: T, v, h => by
    show v :: ((rowsT (v + a.deed.add) T).map fun r => r.getD 0 0) = _
    rw [rowsT_step fun x hx => h x (by simp [hx]), List.length_cons, List.range_succ_eq_map, List.map_cons, List.map_map, h a (by simp)]
    refine congr (congrArg _ (by show v = v + ((0 : Nat) : Int) * c; rw [Int.natCast_zero, Int.zero_mul, Int.add_zero])) (List.map_congr_left fun i _ => ?_)
    show v + c + (i : Int) * c = v + ((i + 1 : Nat) : Int) * c
    rw [Int.natCast_add, Int.add_mul, Int.natCast_one, Int.one_mul]; omega
theorem rowsT_up : ∀ {T : List Ask} {v : Int}, (∀ a ∈ T, 1 ≤ a.deed.add) → (∀ r ∈ rowsT v T, ∃ x y, r = [x, y] ∧ v ≤ x) ∧ (rowsT v T).Pairwise (fun x y => ltL x y = true)
  | [], _, _ => ⟨(fun _ h => nomatch h), .nil⟩
  | a :: T, v, h => by
    obtain ⟨h1, h2⟩ := rowsT_up (T := T) (v := v + a.deed.add) fun x hx => h x (by simp [hx])
    have ha := h a (by simp)
    refine ⟨fun r hr => ?_, .cons (fun r hr => ?_) h2⟩
    · rcases List.mem_cons.mp hr with rfl | hr
      · exact ⟨_, _, rfl, Int.le_refl _⟩
      · obtain ⟨x, y, e, hx⟩ := h1 r hr
        exact ⟨x, y, e, by omega⟩
    · obtain ⟨x, y, rfl, hx⟩ := h1 r hr
      show ltL [v, a.deed.add] [x, y] = true
      show (if v = x then _ else decide (v < x)) = true
      rw [if_neg (by omega)]
      exact decide_eq_true (by omega)
end L3
namespace L3
open PySem PySem.Spec PyProof.Rows L2
theorem rep_const43 {c : Int} : ∀ {n : Nat}, (List.replicate n [V.int c]).flatten = (List.replicate n c).map V.int
  | 0 => rfl
  | n + 1 => by rw [List.replicate_succ, List.flatten_cons, rep_const43]; rfl
theorem mem_ins43 {α : Type} {ks : List α} {i : Nat} {a c : α} (hc : c ∈ ks.take i ++ [a] ++ ks.drop i) : c = a ∨ c ∈ ks := by
  rcases List.mem_append.mp hc with hc | hc
  · rcases List.mem_append.mp hc with hc | hc
    · exact .inr (List.mem_of_mem_take hc)
    · exact .inl (List.mem_singleton.mp hc)
  · exact .inr (List.mem_of_mem_drop hc)
theorem comp_listG43 {K : PySem.W.Frag} {a : Addr} {xs : List V} {g : TG} {te : TE} {Q : VK} {σ : L2.St} {H : Hp} (Pv : Nat → List V → L2.St → Hp → Prop) (h0 : Pv 0 [] σ H) (hl : ∀ i ys σ H, i ≤ xs.length → Pv i ys σ H → SqL K H a xs)
    (hs : ∀ i x ys σ H, xs[i]? = some x → Pv i ys σ H → g x σ H fun σ2 H3 => te σ2 H3 fun y H5 => ys.length < sizeLine ∧ Pv (i + 1) (ys ++ [y]) σ2 H5)
    (hd : ∀ ys σ H, Pv xs.length ys σ H → ∀ l, H l = none → Q (.ref l) (upd H l (.lst ys))) : CompW (Itl K a) σ H g tTrue te Q := comp_list Pv h0 hl (fun i x ys σ H hx hp => hs i x ys σ H hx hp) hd
theorem step_mem43 {s : List Int} {x : Int} : (∀ y ∈ s, y ∈ step_dedup s x) ∧ x ∈ step_dedup s x := by
  unfold step_dedup
  by_cases c : (s.any (· == x)) = true
  · rw [if_pos c]
    obtain ⟨y, hy, e⟩ := List.any_eq_true.mp c
    rw [beq_iff_eq] at e
    exact ⟨fun _ h => h, e ▸ hy⟩
  · rw [if_neg c]
    exact ⟨fun y h => List.mem_append_left _ h, List.mem_append_right _ (List.mem_singleton.mpr rfl)⟩
theorem mem_ded43 : ∀ {ns acc : List Int} {x : Int}, x ∈ ns ∨ x ∈ acc → x ∈ ns.foldl step_dedup acc
  | [], acc, x, h => by rcases h with h | h; cases h; exact h
  | n :: ns, acc, x, h => by
    rw [List.foldl_cons]
    rcases h with h | h
    · rcases List.mem_cons.mp h with rfl | h
      · exact mem_ded43 (.inr step_mem43.2)
      · exact mem_ded43 (.inl h)
    · exact mem_ded43 (.inr (step_mem43.1 x h))
theorem ded_one43 {ns : List Int} (h : (dedI ns).length = 1) : ∃ c, ∀ x ∈ ns, x = c := by
  obtain ⟨c, hc⟩ := List.length_eq_one_iff.mp h
  refine ⟨c, fun x hx => ?_⟩
  have := mem_ded43 (acc := []) (.inl hx)
  rw [show ns.foldl step_dedup [] = dedI ns from rfl, hc] at this
  exact List.mem_singleton.mp this
theorem ded_same43 {c : Int} : ∀ {ns : List Int}, (∀ x ∈ ns, x = c) → ns.foldl step_dedup [c] = [c]
  | [], _ => rfl
  | n :: ns, h => by
    rw [List.foldl_cons]
    have e : step_dedup [c] n = [c] := by rw [h n (by simp)]; unfold step_dedup; rw [if_pos (by simp)]
    rw [e]
    exact ded_same43 fun x hx => h x (by simp [hx])
theorem ded_const43 {ns : List Int} {c : Int} (h : ∀ x ∈ ns, x = c) (hn : ns ≠ []) : (dedI ns).length = 1 := by
  cases ns with
  | nil => exact absurd rfl hn
  | cons n ns =>
    show (ns.foldl step_dedup (step_dedup [] n)).length = 1
    have e : step_dedup [] n = [c] := by rw [h n (by simp)]; rfl
    rw [e, ded_same43 fun x hx => h x (by simp [hx])]; rfl
theorem rowsT_get43 : ∀ {T : List Ask} {v : Int} {i : Nat} {r : List Int}, (rowsT v T)[i]? = some r → ∃ a, T[i]? = some a ∧ r = [v + sumA (T.take i), a.deed.add]
  | [], _, _, _, h => by cases h
  | a :: T, v, 0, r, h => by
    cases Option.some.inj h
    exact ⟨a, rfl, by show [v, a.deed.add] = [v + 0, a.deed.add]; rw [Int.add_zero]⟩
  | a :: T, v, i + 1, r, h => by
    obtain ⟨c, h1, h2⟩ := rowsT_get43 (T := T) (v := v + a.deed.add) (i := i) h
    refine ⟨c, h1, ?_⟩
    rw [h2]
    show [v + a.deed.add + sumA (T.take i), c.deed.add] = [v + (a.deed.add + sumA (T.take i)), c.deed.add]
    rw [Int.add_assoc]
theorem rowsT_two43 {T : List Ask} {v : Int} {r : List Int} (h : r ∈ rowsT v T) : ∃ p q, r = [p, q] := by
  obtain ⟨i, hi, rfl⟩ := List.getElem_of_mem h
  obtain ⟨a, _, e⟩ := rowsT_get43 (List.getElem?_eq_getElem hi)
  exact ⟨_, _, e⟩
theorem rowsT_adds43 : ∀ {T : List Ask} {v : Int}, ((rowsT v T).map fun r => r.getD 1 0) = T.map (·.deed.add)
  | [], _ => rfl
  | a :: T, v => congrArg (a.deed.add :: ·) (rowsT_adds43 (T := T))
theorem sorted_eq43 {a b : List Int} (h : a.Perm b) (ha : a.Pairwise (· ≤ ·)) (hb : b.Pairwise (· ≤ ·)) : a = b := h.eq_of_pairwise (fun _ _ _ _ h1 h2 => Int.le_antisymm h1 h2) ha hb
theorem sumA_take43 {T : List Ask} {i : Nat} {a : Ask} (h : T[i]? = some a) : sumA (T.take (i + 1)) = sumA (T.take i) + a.deed.add := by
  unfold sumA
  rw [List.take_succ, h, List.map_append, List.sum_append]
  show _ + (a.deed.add + 0) = _
  rw [Int.add_zero]
theorem sum_perm43 {a b : List Int} (h : a.Perm b) : a.sum = b.sum := by
  induction h with
  | nil => rfl
  | cons x _ ih => rw [List.sum_cons, List.sum_cons, ih]
  | swap x y l => rw [List.sum_cons, List.sum_cons, List.sum_cons, List.sum_cons]; omega
  | trans _ _ h1 h2 => rw [h1, h2]
def AddsOk (ds : List Int) : Prop := (∀ d ∈ ds, 1 ≤ d) ∨ ∃ c, ∀ d ∈ ds, d = c
theorem AddsOk.of43 {ds : List Int} {ks : List Ask} (h : AddsOk ds) (hk : ∀ a ∈ ks, ∃ d ∈ ds, a.deed = ⟨d, none, none⟩) : AddsOk (ks.map (·.deed.add)) := by
  have hm : ∀ x ∈ ks.map (·.deed.add), x ∈ ds := fun x hx => by
    obtain ⟨a, ha, rfl⟩ := List.mem_map.mp hx
    obtain ⟨d, hd, e⟩ := hk a ha
    rw [e]; exact hd
  rcases h with h | ⟨c, h⟩
  · exact .inl fun x hx => h x (hm x hx)
  · exact .inr ⟨c, fun x hx => h x (hm x hx)⟩
def sp_num43 (_ : PySem.W.Frag) : Sp := sp1 fun x H Q => ∃ a, x = .ref a ∧ Pot H a ∧ ∀ n H', -(10 ^ 28) < n → n < 10 ^ 28 → Grow [a] H H' → Pot H' a → Q (.int n) H'
def sp_adds43 (_ : PySem.W.Frag) : Sp := sp2 fun x y H Q => ∃ (a : Addr) (k : Nat), x = .ref a ∧ y = .int k ∧ k ≤ 4 ∧ Pot H a ∧ ∀ l ds H', H l = none → Grow [a] H H' → Pot H' a → H' l = some (.lst (ds.map V.int)) → ds.length = 2 ^ k → (∀ d ∈ ds, Sm d) → AddsOk ds → Q (.ref l) H'
def sp_asks43 (K : PySem.W.Frag) : Sp := sp4 fun x y z u H Q => ∃ (a : Addr) (k m : Nat) (l : Addr) (ds : List Int), x = .ref a ∧ y = .int k ∧ z = .int m ∧ u = .ref l ∧ k ≤ 4 ∧ 1 ≤ m ∧ m ≤ 16 ∧ Pot H a ∧ l ≠ a ∧ H l = some (.lst (ds.map V.int)) ∧ ds.length = 2 ^ k ∧ (∀ d ∈ ds, Sm d) ∧ AddsOk ds ∧ ∀ y ks H', Grow [a] H H' → Pot H' a → AsksAt K H' y ks → ks.length ≤ 16 → RndOk k m ks → Adds ks → AddsOk (ks.map (·.deed.add)) → Q y H'
def sp_whole43 (K : PySem.W.Frag) : Sp := sp2 fun x y H Q => ∃ b : List Int, BoardAt K H x b ∧ y = .int b.length ∧ b.length ≤ 900 ∧ ∀ H', Grow [] H H' → Q (.bl true) H'
def sp_runs43 (K : PySem.W.Frag) : Sp := sp2 fun x y H Q => ∃ (v : Int) (l : Addr) (zs : List V) (T : List Ask) (own : List (List Int)), x = .int v ∧ y = .ref l ∧ H l = some (.lst zs) ∧ AllR (BoardAt K H) zs own ∧ own.Perm (rowsT v T) ∧ T ≠ [] ∧ T.length ≤ 16 ∧ AddsOk (T.map (·.deed.add)) ∧ ∀ H', Grow [] H H' → Q (.bl true) H'
def sp_right43 (K : PySem.W.Frag) : Sp := sp3 fun x y z H Q => ∃ (k : Nat) (b : List Int) (ks : List Ask) (rows : List (List Int)), k ≤ 4 ∧ BoardAt K H x b ∧ 1 ≤ b.length ∧ b.length ≤ 16 ∧ AsksAt K H y ks ∧ ks.length ≤ 16 ∧ RndOk k b.length ks ∧ SetOk k rows ∧ Adds ks ∧ AddsOk (ks.map (·.deed.add)) ∧ ToldAt K H z (ansR k rows ks b, finL k rows ks b) ∧ ∀ H', Grow [] H H' → Q (.bl true) H'
end L3

namespace My
open PySem PySem.Spec PyProof.Rows L2 L3
def top (i : Nat) : Stmt := PySem.Challenge.pw_joinedasks_k43_whole_unlike_answers.main.body.getD i (.Pass ⟨0, 0, 0, 0⟩)
section
variable {P : Program} {w : World} {K : PySem.W.Frag} {mg : Str → Option Value} {base : Heap}
theorem sc__law_runs_on : FnScope ["_law_value", "_law_own", "_law_adds_here", "_law_answer", "_law_add"] ["_law_value", "_law_own"] (defScope (top 53)) := ⟨rfl, rfl, rfl, by decide +kernel, rfl, by decide +kernel, by decide +kernel⟩
set_option maxHeartbeats 0 in
theorem ok__law_runs_on {n : Nat} {f : Addr} {fd : FuncData} (F : Fun K "_law_runs_on" "_law_runs_on" (top 53) f fd) (B : Blt mg)  (g_sorted : mg "sorted" = none) (g_set : mg "set" = none)   :
    FnOk P w K mg base CX0 (n + 1) f fd ["_law_value", "_law_own"] (sp_runs43 K) := by
  refine F.ok sc__law_runs_on sp2_len (fun cdv A outer s H vs Q E hr h => ?_)
  obtain ⟨x, y, rfl, v, l, zs, T, own, rfl, rfl, hl, hz, pm, nT, T16, dok, q⟩ := h
  refine ⟨_, (pss_cons (ps_set (i := 2) sc__law_runs_on.nd rfl (Or.inr rfl) (pe_compT (CSc.of (N' := ["_law_answer", "_law_add"]) (sub := [none, none]) (defScope (top 53)) ["_law_value", "_law_own", "_law_adds_here", "_law_answer", "_law_add"] rfl rfl (by decide +kernel) rfl) rfl (pi_list (pv 1)) (fun _ _ _ _ _ _ => pg_tupK (K := K) 2 rfl rfl (pgs_cons (pg_name (i := 0) (show (["_law_answer", "_law_add"] : List Str).Nodup by decide +kernel) rfl (Or.inl rfl) (Or.inr rfl)) (pgs_cons (pg_name (i := 1) (show (["_law_answer", "_law_add"] : List Str).Nodup by decide +kernel) rfl (Or.inl rfl) (Or.inr rfl)) pgs_nil)) rfl rfl) (fun _ _ _ _ _ _ => pifs_nil) (fun _ _ _ _ _ _ => (pv 1)))) (pss_cons (ps_if (pt_cmpR op_eq (pe_callB call_lenS rfl B.len b_len (pa_cons (pe_callTy (call_setL hr) rfl g_set b_set (pa_cons (pv 2) pa_nil)) pa_nil)) pe_int (nomark _)) (pss_one (ps_ret (pe_cmpR (op_eqL hr) (pe_callB (call_sortedL (K := K) rfl) rfl g_sorted b_sorted (pa_cons (pe_compT (CSc.of (N' := ["_law_answer", "_law_add"]) (sub := [none, none]) (defScope (top 53)) ["_law_value", "_law_own", "_law_adds_here", "_law_answer", "_law_add"] rfl rfl (by decide +kernel) rfl) rfl (pi_list (pv 1)) (fun _ _ _ _ _ _ => pg_tupK (K := K) 2 rfl rfl (pgs_cons (pg_name (i := 0) (show (["_law_answer", "_law_add"] : List Str).Nodup by decide +kernel) rfl (Or.inl rfl) (Or.inr rfl)) (pgs_cons (pg_name (i := 1) (show (["_law_answer", "_law_add"] : List Str).Nodup by decide +kernel) rfl (Or.inl rfl) (Or.inr rfl)) pgs_nil)) rfl rfl) (fun _ _ _ _ _ _ => pifs_nil) (fun _ _ _ _ _ _ => (pv 0))) pa_nil)) (pe_callB (call_sortedL (K := K) rfl) rfl g_sorted b_sorted (pa_cons (pe_compT (CSc.of (N' := ["_law_at", "_law_value", "_law_adds_here"]) (sub := [none, some 0, some 2]) (defScope (top 53)) ["_law_value", "_law_own", "_law_adds_here", "_law_answer", "_law_add"] rfl rfl (by decide +kernel) rfl) rfl (pi_range1 rfl B.range (pa_cons (pe_callB call_len_seq rfl B.len b_len (pa_cons (pv 1) pa_nil)) pa_nil)) (fun _ _ _ _ _ _ => pg_name (i := 0) (show (["_law_at", "_law_value", "_law_adds_here"] : List Str).Nodup by decide +kernel) rfl (Or.inl rfl)) (fun _ _ _ _ _ _ => pifs_nil) (fun _ _ _ _ _ _ => (pe_op op_add (pv 1) (pe_op op_mulG (pv 0) (pe_ix (ix_listK (K := K) rfl) (pv 2) pe_int (fun _ _ => rfl)))))) pa_nil)) (nomark _)))) pss_nil) (pss_cons (ps_for PassesOwn.never rfl (pi_list (pe_callB (call_sort43 (K := K) rfl) rfl g_sorted b_sorted (pa_cons (pv 1) pa_nil))) (pg_tup rfl (pgs_cons (pg_name (i := 3) sc__law_runs_on.nd rfl (Or.inl rfl)) (pgs_cons (pg_name (i := 4) sc__law_runs_on.nd rfl (Or.inl rfl)) pgs_nil))) (pss_cons (ps_if (pt_cmpR op_ne (pv 3) (pv 0) (nomark _)) (pss_one (ps_ret pe_bl)) pss_nil) (pss_one (ps_set (i := 0) sc__law_runs_on.nd rfl (Or.inr rfl) (pe_op op_add (pv 0) (pv 4)))))) (pss_one (ps_ret pe_bl))))), ?_⟩
  have ol : own.length = T.length := by rw [pm.length_eq, rowsT_len]
  have zl : zs.length = own.length := hz.len
  have two : ∀ r ∈ own, ∃ p q, r = [p, q] := fun r hr' => rowsT_two43 (pm.mem_iff.mp hr')
  have T1 : 1 ≤ T.length := by
    cases T with
    | nil => exact absurd rfl nT
    | cons a T => exact Nat.succ_le_succ (Nat.zero_le _)
  have padd : (own.map fun r => r.getD 1 0).Perm (T.map (·.deed.add)) := by
    have := pm.map fun r => r.getD 1 0
    rw [rowsT_adds43] at this; exact this
  refine c_asg (fun w H' => ∃ l2, w = .ref l2 ∧ H' l2 = some (.lst ((own.map fun r => r.getD 1 0).map V.int)) ∧ Grow [] H H') (fun Kk hk => ⟨_, rfl, l, rfl, ⟨_, SqL.of hl⟩, comp_listG43 (xs := zs) (fun i ys σ' H' => H' = H ∧ (∃ e0 e1, σ' = [e0, e1]) ∧ ys = ((own.take i).map fun r => r.getD 1 0).map V.int) ⟨rfl, ⟨_, _, rfl⟩, rfl⟩ (fun i ys σ' H' _ z => by rw [z.1]; exact SqL.of hl) ?_ ?_⟩) ?_
  · rintro i x ys σ' H' hx ⟨rfl, ⟨e0, e1, rfl⟩, rfl⟩
    obtain ⟨row, hrow, r, rfl, hr1⟩ := hz.get hx
    obtain ⟨p, q', rfl⟩ := two _ (List.mem_of_getElem? hrow)
    have hi := (List.getElem?_eq_some_iff.mp hrow).1
    refine ⟨r, [.int p, .int q'], rfl, hr1, rfl, _, _, rfl, _, _, rfl, rfl, _, rfl, smallR (by rw [List.length_map, List.length_map, List.length_take]; omega), rfl, ⟨_, _, rfl⟩, ?_⟩
    rw [List.take_succ, hrow, List.map_append, List.map_append]; rfl
  · rintro ys σ' H' ⟨rfl, _, rfl⟩ l2 hl2
    rw [zl, List.take_length]
    exact hk _ _ ⟨l2, rfl, upd_same, Grow.new hl2 _⟩
  rintro _ H1 ⟨l2, rfl, hl2, g1⟩
  have hl1 := g1.keep _ _ (by simp) hl
  have hz1 := hz.imp fun x row h => g1.board h
  have al : (own.map fun r => r.getD 1 0).length = T.length := by rw [List.length_map, ol]
  refine c_test (fun c H' => (c = true ↔ (dedI (own.map fun r => r.getD 1 0)).length = 1) ∧ Grow [] H1 H') (fun Kk hk => ⟨_, rfl, l2, _, rfl, SqL.of hl2, by rw [al]; omega, fun l3 hl3 => ⟨l3, _, _, rfl, upd_same, rfl, _, rfl, hk _ _ ⟨?_, Grow.new hl3 _⟩⟩⟩) ?_
  · rw [decide_eq_true_iff]
    exact ⟨fun z => by have := V.int.inj z; omega, fun z => congrArg V.int (by rw [z]; rfl)⟩
  rintro c H2 ⟨hc, g2⟩
  have hl22 := g2.keep _ _ (by simp) hl2
  have hl12 := g2.keep _ _ (by simp) hl1
  have hz2 := hz1.imp fun x row h => g2.board h
  cases c with
  | true =>
    obtain ⟨c0, hc0⟩ := ded_one43 (hc.mp rfl)
    have hT : ∀ a ∈ T, a.deed.add = c0 := fun a ha => hc0 _ (padd.mem_iff.mpr (List.mem_map.mpr ⟨a, ha, rfl⟩))
    have first : (own.map fun r => r.getD 1 0)[0]? = some c0 := by
      obtain ⟨x0, h0⟩ : ∃ x0, (own.map fun r => r.getD 1 0)[0]? = some x0 := ⟨_, List.getElem?_eq_getElem (by rw [al]; exact T1)⟩
      rw [h0, hc0 x0 (List.mem_of_getElem? h0)]
    have pans : (own.map fun r => r.getD 0 0).Perm ((List.range T.length).map fun i : Nat => v + (i : Int) * c0) := by
      have := pm.map fun r => r.getD 0 0
      rw [rowsT_step hT] at this; exact this
    refine iteT ⟨_, rfl, l, rfl, ⟨_, SqL.of hl12⟩, comp_listG43 (xs := zs) (fun i ys σ' H' => H' = H2 ∧ (∃ e0 e1, σ' = [e0, e1]) ∧ ys = ((own.take i).map fun r => r.getD 0 0).map V.int) ⟨rfl, ⟨_, _, rfl⟩, rfl⟩ (fun i ys σ' H' _ z => by rw [z.1]; exact SqL.of hl12) ?_ ?_⟩
    · rintro i x ys σ' H' hx ⟨rfl, ⟨e0, e1, rfl⟩, rfl⟩
      obtain ⟨row, hrow, r, rfl, hr1⟩ := hz2.get hx
      obtain ⟨p, q', rfl⟩ := two _ (List.mem_of_getElem? hrow)
      have hi := (List.getElem?_eq_some_iff.mp hrow).1
      refine ⟨r, [.int p, .int q'], rfl, hr1, rfl, _, _, rfl, _, _, rfl, rfl, _, rfl, smallR (by rw [List.length_map, List.length_map, List.length_take]; omega), rfl, ⟨_, _, rfl⟩, ?_⟩
      rw [List.take_succ, hrow, List.map_append, List.map_append]; rfl
    · rintro ys σ' H' ⟨rfl, _, rfl⟩ l4 hl4
      rw [zl, List.take_length]
      have g4 := Grow.new (m := []) hl4 (.lst ((own.map fun r => r.getD 0 0).map V.int))
      refine ⟨l4, _, rfl, SqL.of upd_same, by rw [List.length_map, ol]; omega, fun p5 ms hp5 pm5 so5 => ?_⟩
      have g5 := Grow.new (m := []) hp5 (.lst (ms.map V.int))
      have e5 := upd_same (H := upd H' l4 (.lst ((own.map fun r => r.getD 0 0).map V.int))) (a := p5) (o := .lst (ms.map V.int))
      have G5 := g4.trans g5
      have hl5 := G5.keep _ _ (by simp) hl12
      have hl25 := G5.keep _ _ (by simp) hl22
      generalize upd (upd H' l4 (.lst ((own.map fun r => r.getD 0 0).map V.int))) p5 (.lst (ms.map V.int)) = H5 at g5 e5 G5 hl5 hl25 ⊢
      refine ⟨_, rfl, l, _, rfl, .inl (SqL.of hl5), _, rfl, by omega, by omega, comp_rng (fun i ys H' => H' = H5 ∧ ys = ((List.range i).map fun i : Nat => v + (i : Int) * c0).map V.int) ⟨rfl, rfl⟩ ?_ ?_⟩
      · rintro i ys H6 hi ⟨rfl, rfl⟩
        have hi' : i < T.length := by omega
        refine ⟨_, rfl, _, rfl, _, rfl, l2, _, 0, .int c0, rfl, rfl, SqL.of hl25, atI_map (j := 0) rfl first, _, _, rfl, rfl, mulOkL ⟨by omega, by omega⟩, _, _, rfl, rfl, smallR (by rw [List.length_map, List.length_map, List.length_range]; omega), rfl, ?_⟩
        rw [List.range_succ, List.map_append, List.map_append]
        show _ ++ [V.int (v + (0 + (i : Int)) * c0)] = _ ++ [V.int (v + (i : Int) * c0)]
        rw [Int.zero_add]
      · rintro ys H6 ⟨rfl, rfl⟩ l7 hl7
        rw [Int.toNat_natCast, zl, ol]
        have g7 := Grow.new (m := []) hl7 (.lst (((List.range T.length).map fun i : Nat => v + (i : Int) * c0).map V.int))
        refine ⟨l7, _, rfl, SqL.of upd_same, by rw [List.length_map, List.length_range]; omega, fun p8 ms8 hp8 pm8 so8 => ?_⟩
        have g8 := Grow.new (m := []) hp8 (.lst (ms8.map V.int))
        refine ⟨p5, p8, _, _, rfl, rfl, SqL.of ((g7.trans g8).keep _ _ (by simp) e5), SqL.of upd_same, flat_ints, flat_ints, ?_⟩
        have eq : ms = ms8 := sorted_eq43 (pm5.trans (pans.trans pm8.symm)) so5 so8
        rw [eqVs_ints, decide_eq_true eq]
        exact q _ (g1.trans (g2.trans (G5.trans (g7.trans g8))))
  | false =>
    have up : ∀ a ∈ T, 1 ≤ a.deed.add := by
      rcases dok with h | ⟨c0, h⟩
      · exact fun a ha => h _ (List.mem_map.mpr ⟨a, ha, rfl⟩)
      · have := ded_const43 (ns := own.map fun r => r.getD 1 0) (c := c0) (fun x hx => h x (padd.mem_iff.mp hx)) (fun z => by rw [z] at al; have : 0 = T.length := al; omega)
        have := hc.mpr this
        cases this
    obtain ⟨_, pw⟩ := rowsT_up (v := v) up
    have ndT : (rowsT v T).Nodup := pw.imp fun {x y} h z => by rw [z, ltL_irr] at h; cases h
    refine iteF (c_next ⟨_, rfl, l, zs, own, rfl, SqL.of hl12, hz2, (pm.nodup_iff).mpr ndT, (fun r hr' z => by obtain ⟨p, q', e⟩ := two r hr'; rw [e] at z; cases z), by omega, fun p3 zs' rows' hp3 pm3 pw3 all3 => ?_⟩)
    have er : rows' = rowsT v T := ltL_uniq pw3 pw (pm3.trans pm)
    subst er
    have g3 := Grow.new (m := []) hp3 (.lst zs')
    have e3 := upd_same (H := H2) (a := p3) (o := .lst zs')
    have all3' := all3.imp fun x row h => g3.board h
    generalize upd H2 p3 (.lst zs') = H3 at g3 e3 all3' ⊢
    have zl' : zs'.length = T.length := by rw [all3.len, rowsT_len]
    refine ⟨p3, rfl, ⟨_, SqL.of e3⟩, for_list (xs := zs') (fun i σ H' => H' = H3 ∧ ∃ e3 e4, σ = [some (.int (v + sumA (T.take i))), some (.ref l), some (.ref l2), e3, e4]) ⟨rfl, none, none, by rw [List.take_zero, show v + sumA [] = v from Int.add_zero v]; rfl⟩ (fun i σ H' _ z => by rw [z.1]; exact SqL.of e3) ?_ ?_⟩
    · rintro i x σ H' hx ⟨rfl, e3', e4', rfl⟩
      obtain ⟨row, hrow, r, rfl, hr1⟩ := all3'.get hx
      obtain ⟨a, ha, rfl⟩ := rowsT_get43 hrow
      refine ⟨r, [.int (v + sumA (T.take i)), .int a.deed.add], rfl, hr1, rfl, _, _, rfl, _, _, rfl, rfl, ?_⟩
      refine ⟨_, rfl, _, rfl, rfl, _, rfl, iteF' (by simp) ⟨_, rfl, _, rfl, _, _, rfl, rfl, rfl, some (.int (v + sumA (T.take i))), some (.int a.deed.add), ?_⟩⟩
      rw [sumA_take43 ha, ← Int.add_assoc]; rfl
    · rintro σ H' ⟨rfl, e3', e4', rfl⟩
      exact q _ (g1.trans (g2.trans g3))
theorem sc__law_are_whole : FnScope ["_law_row", "_law_many"] ["_law_row", "_law_many"] (defScope (top 52)) := ⟨rfl, rfl, rfl, by decide +kernel, rfl, by decide +kernel, by decide +kernel⟩
set_option maxHeartbeats 0 in
theorem ok__law_are_whole {n : Nat} {f : Addr} {fd : FuncData} (F : Fun K "_law_are_whole" "_law_are_whole" (top 52) f fd) (B : Blt mg)     :
    FnOk P w K mg base CX0 (n + 1) f fd ["_law_row", "_law_many"] (sp_whole43 K) := by
  refine F.ok sc__law_are_whole sp2_len (fun cdv A outer s H vs Q E hr h => ?_)
  obtain ⟨x, y, rfl, b, ⟨r, rfl, hs⟩, rfl, b9, q⟩ := h
  refine ⟨_, (pss_cons (ps_if (PW.pt (pw_or (pt_not (pt_val (pe_callB call_isi rfl B.isinstance b_isinstance (pa_cons (pv 0) (pa_cons (pe_tyn rfl B.tuple b_tuple) pa_nil))))) (pw_or1 (pt_cmpR op_ne (pe_callB call_len_seq rfl B.len b_len (pa_cons (pv 0) pa_nil)) (pv 1) (nomark _))))) (pss_one (ps_ret pe_bl)) pss_nil) (pss_one (ps_ret (pe_callB (call_allB rfl) rfl B.all b_all (pa_cons (pe_compT (CSc.of (N' := ["_law_number_here"]) (sub := [none]) (defScope (top 52)) ["_law_row", "_law_many"] rfl rfl (by decide +kernel) rfl) rfl (pi_tup (pv 0)) (fun _ _ _ _ _ _ => pg_name (i := 0) (show (["_law_number_here"] : List Str).Nodup by decide +kernel) rfl (Or.inl rfl)) (fun _ _ _ _ _ _ => pifs_nil) (fun _ _ _ _ _ _ => (pe_and (pe_callB (call_isiK (K := K) rfl) rfl B.isinstance b_isinstance (pa_cons (pv 0) (pa_cons (pe_tyn rfl B.int b_int) pa_nil))) (pe_one (pe_not (pe_callB (call_isiK (K := K) rfl) rfl B.isinstance b_isinstance (pa_cons (pv 0) (pa_cons (pe_tyn rfl B.bool b_bool) pa_nil)))))))) pa_nil))))), ?_⟩
  have hl : (b.map V.int).length = b.length := List.length_map ..
  refine ⟨_, rfl, _, _, _, true, rfl, .inl ⟨rfl, _, hs⟩, rfl, _, rfl, iteF ?_⟩
  refine ⟨_, rfl, r, _, rfl, .inr hs, _, rfl, rfl, _, rfl, iteF' (by rw [hl]; simp) ?_⟩
  refine ⟨_, rfl, r, rfl, ⟨_, hs⟩, comp_mapT (fun _ => V.bl true) hs (by rw [hl]; omega) ?_ ?_⟩
  · intro x H1 R hx g k
    obtain ⟨i, _, rfl⟩ := List.mem_map.mp hx
    exact ⟨_, rfl, _, _, _, true, rfl, rfl, rfl, _, rfl, iteT ⟨_, rfl, _, _, _, false, rfl, rfl, rfl, _, rfl, k _ (Grow.refl _ _)⟩⟩
  · intro H1 p g hp
    refine ⟨p, b.map (fun _ => true), rfl, SqL.of (by rw [upd_same, trues_eq]), ?_⟩
    rw [all_trues]
    exact q _ (g.trans (Grow.new hp _))
theorem sc__law_is_right : FnScope ["_law_board", "_law_asks_here", "_law_told", "_law_box", "_law_own"] ["_law_board", "_law_asks_here", "_law_told"] (defScope (top 54)) := ⟨rfl, rfl, rfl, by decide +kernel, rfl, by decide +kernel, by decide +kernel⟩
set_option maxHeartbeats 0 in
theorem ok__law_is_right {n : Nat} {f : Addr} {fd : FuncData} (F : Fun K "_law_is_right" "_law_is_right" (top 54) f fd) (B : Blt mg) (c__law_runs_on : Callee P w K mg base n "_law_runs_on" ["_law_value", "_law_own"] (sp_runs43 K)) (c__law_are_whole : Callee P w K mg base n "_law_are_whole" ["_law_row", "_law_many"] (sp_whole43 K)) (g_sum : mg "sum" = none) (g_enumerate : mg "enumerate" = none)   :
    FnOk P w K mg base CX0 (n + 1) f fd ["_law_board", "_law_asks_here", "_law_told"] (sp_right43 K) := by
  refine F.ok sc__law_is_right sp3_len (fun cdv A outer s H vs Q E hr h => ?_)
  obtain ⟨x, y, z, rfl, k, b, ks, rows, k4, ⟨rb, rfl, hrb⟩, b1, b16, hks, k16, R, hs, PA, dok, ht, q⟩ := h
  refine ⟨_, (pss_cons (ps_if (PW.pt (pw_or (pt_not (pt_val (pe_callB call_isi rfl B.isinstance b_isinstance (pa_cons (pv 2) (pa_cons (pe_tyn rfl B.tuple b_tuple) pa_nil))))) (pw_or (pt_cmpR op_ne (pe_callB call_len_seq rfl B.len b_len (pa_cons (pv 2) pa_nil)) pe_int (nomark _)) (pw_or1 (pt_not (pt_val (pe_callC c__law_are_whole hr rfl (pa_cons (pe_ix ix_tup (pv 2) pe_int (fun _ _ => rfl)) (pa_cons (pe_callB call_len_seq rfl B.len b_len (pa_cons (pv 1) pa_nil)) pa_nil))))))))) (pss_one (ps_ret pe_bl)) pss_nil) (pss_cons (ps_if (pt_not (pt_val (pe_callC c__law_are_whole hr rfl (pa_cons (pe_ix ix_tup (pv 2) pe_int (fun _ _ => rfl)) (pa_cons (pe_callB call_len_seq rfl B.len b_len (pa_cons (pv 0) pa_nil)) pa_nil))))) (pss_one (ps_ret pe_bl)) pss_nil) (pss_cons (ps_for PassesOwn.never rfl (pi_range1 rfl B.range (pa_cons (pe_callB call_len_seq rfl B.len b_len (pa_cons (pv 0) pa_nil)) pa_nil)) (pg_name (i := 3) sc__law_is_right.nd rfl (Or.inr rfl)) (pss_cons (ps_compT (i := 4) sc__law_is_right.nd rfl rfl (CSc.of (N' := ["_law_at", "_law_ask", "_law_told", "_law_box"]) (sub := [none, none, some 2, some 3]) (defScope (top 54)) ["_law_board", "_law_asks_here", "_law_told", "_law_box", "_law_own"] rfl rfl (by decide +kernel) rfl) rfl (pi_enumC true (K := K) rfl rfl g_enumerate (pa_cons (pv 1) pa_nil)) (fun _ _ _ _ _ _ => pg_tupK (K := K) 2 rfl rfl (pgs_cons (pg_name (i := 0) (show (["_law_at", "_law_ask", "_law_told", "_law_box"] : List Str).Nodup by decide +kernel) rfl (Or.inl rfl) (Or.inr rfl)) (pgs_cons (pg_name (i := 1) (show (["_law_at", "_law_ask", "_law_told", "_law_box"] : List Str).Nodup by decide +kernel) rfl (Or.inl rfl) (Or.inr rfl)) pgs_nil)) rfl rfl) (fun _ _ _ _ _ _ => (pifs_one (pt_cmpR op_eq (pe_ix (ix_tupK (K := K) rfl) (pv 1) pe_int (fun _ _ => rfl)) (pv 3) (nomark _)))) (fun _ _ _ _ _ _ => (pe_tup (pa_cons (pe_ix (ix_tupK (K := K) rfl) (pe_ix (ix_tupK (K := K) rfl) (pv 2) pe_int (fun _ _ => rfl)) (pv 0) (fun _ _ => rfl)) (pa_cons (pe_ix (ix_tupK (K := K) rfl) (pe_ix (ix_tupK (K := K) rfl) (pv 1) pe_int (fun _ _ => rfl)) pe_int (fun _ _ => rfl)) pa_nil))))) (pss_cons (ps_if (pt_cmpR op_ne (pe_ix ix_tup (pe_ix ix_tup (pv 2) pe_int (fun _ _ => rfl)) (pv 3) (fun _ _ => rfl)) (pe_op op_add (pe_ix ix_tup (pv 0) (pv 3) (fun _ _ => rfl)) (pe_callB (call_sumI rfl) rfl g_sum b_sum (pa_cons (pe_compT (CSc.of (N' := ["_law_answer", "_law_add"]) (sub := [none, none]) (defScope (top 54)) ["_law_board", "_law_asks_here", "_law_told", "_law_box", "_law_own"] rfl rfl (by decide +kernel) rfl) rfl (pi_list (pv 4)) (fun _ _ _ _ _ _ => pg_tupK (K := K) 2 rfl rfl (pgs_cons (pg_name (i := 0) (show (["_law_answer", "_law_add"] : List Str).Nodup by decide +kernel) rfl (Or.inl rfl) (Or.inr rfl)) (pgs_cons (pg_name (i := 1) (show (["_law_answer", "_law_add"] : List Str).Nodup by decide +kernel) rfl (Or.inl rfl) (Or.inr rfl)) pgs_nil)) rfl rfl) (fun _ _ _ _ _ _ => pifs_nil) (fun _ _ _ _ _ _ => (pv 1))) pa_nil))) (nomark _)) (pss_one (ps_ret pe_bl)) pss_nil) (pss_one (ps_if (PW.pt (pw_and (pt_cmpR (op_neNil (K := K) rfl hr) (pv 4) (pe_lst pa_nil) (nomark _)) (pw_and1 (pt_not (pt_val (pe_callC c__law_runs_on hr rfl (pa_cons (pe_ix ix_tup (pv 0) (pv 3) (fun _ _ => rfl)) (pa_cons (pv 4) pa_nil)))))))) (pss_one (ps_ret pe_bl)) pss_nil))))) (pss_one (ps_ret pe_bl))))), ?_⟩
  obtain ⟨ra, xs, rfl, hra, hxs⟩ := hks
  obtain ⟨rt, r1, r2, rfl, h0, h1, h2⟩ := ht
  have xl := hxs.len
  have lb : (b.map V.int).length = b.length := List.length_map ..
  have la : (ansR k rows ks b).length = ks.length := by unfold ansR; rw [List.length_map]
  have lf : (finL k rows ks b).length = b.length := by unfold finL; rw [List.length_map, List.length_range]
  refine ⟨_, rfl, _, _, _, true, rfl, .inl ⟨rfl, _, h0⟩, rfl, _, rfl, iteF ⟨_, rfl, rt, _, rfl, .inr h0, rfl, _, rfl, iteF' (by simp) ⟨_, rfl, rt, _, 0, .ref r1, rfl, rfl, h0, rfl, _, rfl, ra, _, rfl, .inr hra, _, _, rfl, ansR k rows ks b, ⟨r1, rfl, h1⟩, by rw [xl, la], by rw [la]; omega, fun H1 g1 => ⟨_, rfl, iteF ?_⟩⟩⟩⟩
  refine ⟨_, rfl, rt, _, 1, .ref r2, rfl, rfl, g1.sqT h0, rfl, _, rfl, rb, _, rfl, .inr (g1.sqT hrb), _, _, rfl, finL k rows ks b, ⟨r2, rfl, g1.sqT h2⟩, by rw [lb, lf], by rw [lf]; omega, fun H2 g2 => ⟨_, rfl, iteF ?_⟩⟩
  have G2 := g1.trans g2
  have hrb2 := G2.sqT hrb
  refine ⟨_, rfl, rb, _, rfl, .inr hrb2, _, rfl, by omega, by rw [lb]; omega, for_range (fun j σ H' => ∃ (e3 e4 : Option V), σ = [some (.ref rb), some (.ref ra), some (.ref rt), e3, e4] ∧ Grow [] H2 H') ⟨_, _, rfl, Grow.refl _ _⟩ ?_ ?_⟩
  · rintro j σ H3 hj ⟨e3, e4, rfl, g3⟩
    have hj' : j < b.length := by rw [lb] at hj; omega
    have G3 := G2.trans g3
    have hra3 := G3.sqT hra
    have hrb3 := G3.sqT hrb
    have h03 := G3.sqT h0
    have h13 := G3.sqT h1
    have h23 := G3.sqT h2
    have hxs3 := G3.allA hxs
    try dsimp only
    refine c_asg (fun v H' => ∃ (l : Addr) (zs : List V), v = .ref l ∧ H' l = some (.lst zs) ∧ AllR (BoardAt K H') zs (ownR k rows ks (bdF b) j) ∧ Grow [] H3 H') (fun Kk hk => ⟨_, rfl, ra, _, rfl, hra3, comp_enumC (xs := xs) (fun i ws σ' H' => ∃ (e0 e1 : Option V), σ' = [e0, e1, some (.ref rt), some (.int (0 + (j : Int)))] ∧ Grow [] H3 H' ∧ AllR (BoardAt K H') ws (((ks.take i).filter fun a => decide (a.box = (j : Int))).map fun a => [stvR k rows ks (bdF b) k a.hand.toNat a.box.toNat, a.deed.add])) ⟨_, _, rfl, Grow.refl _ _, trivial⟩ (fun i ws σ' H' ⟨_, _, _, g, _⟩ => g.sqT hra3) ?_ ?_⟩) ?_
    · rintro i x ws σ' H4 T hx ⟨e0, e1, rfl, g4, all4⟩ hT
      obtain ⟨a, hai, haA⟩ := hxs3.get hx
      have gT := Grow.new (m := []) hT (.tup [.int i, x])
      have gg := g4.trans gT
      obtain ⟨rk, rd, rfl, hr1, hr2⟩ := gg.ask haA
      have hi : i < ks.length := (List.getElem?_eq_some_iff.mp hai).1
      have all5 := all4.imp fun x row h => gT.board h
      have hlen : ws.length ≤ i := by
        rw [all4.len, List.length_map]
        have := List.length_filter_le (fun a : Ask => decide (a.box = (j : Int))) (ks.take i)
        rw [List.length_take] at this; omega
      have et : ((ks.take (i + 1)).filter fun a => decide (a.box = (j : Int))) = ((ks.take i).filter fun a => decide (a.box = (j : Int))) ++ if a.box = (j : Int) then [a] else [] := by
        rw [List.take_succ, hai, List.filter_append]
        show _ ++ [a].filter _ = _
        rw [List.filter_cons, List.filter_nil]
        by_cases c : a.box = (j : Int)
        · rw [if_pos c, if_pos (decide_eq_true c)]
        · rw [if_neg c, if_neg (fun z => c (of_decide_eq_true z))]
      refine ⟨T, [.int i, .ref rk], rfl, SqT.of upd_same, rfl, _, _, rfl, _, _, rfl, rfl, ?_⟩
      refine ⟨_, rfl, rk, _, 1, .int a.box, rfl, rfl, hr1, rfl, _, rfl, rfl, _, rfl, ?_⟩
      by_cases c : a.box = (j : Int)
      · refine iteT' (decide_eq_true (congrArg V.int (by omega))) ?_
        have hai' : (ansR k rows ks b)[i]? = some (stvR k rows ks (bdF b) k a.hand.toNat a.box.toNat) := by unfold ansR; rw [List.getElem?_map, hai]; rfl
        refine ⟨_, rfl, rt, _, 0, .ref r1, rfl, rfl, gg.sqT h03, rfl, _, rfl, r1, _, i, .int (stvR k rows ks (bdF b) k a.hand.toNat a.box.toNat), rfl, rfl, gg.sqT h13, atI_map rfl hai', ?_⟩
        refine ⟨_, rfl, rk, _, 2, .ref rd, rfl, rfl, hr1, rfl, rd, _, 0, .int a.deed.add, rfl, rfl, hr2, rfl, szl rfl, fun t ht => ⟨smallR (by omega), _, _, rfl, gg.trans (Grow.new ht _), ?_⟩⟩
        rw [et, if_pos c, List.map_append]
        exact (all5.imp fun x row h => (Grow.new (m := []) ht _).board h).app (AllR.one ⟨t, rfl, SqT.of upd_same⟩)
      · refine iteF' (decide_eq_false fun z => c (by have := V.int.inj z; omega)) ⟨_, _, rfl, gg, ?_⟩
        rw [et, if_neg c, List.append_nil]
        exact all5
    · rintro ws σ' H4 ⟨_, _, rfl, g4, all4⟩ l5 hl5
      rw [xl, List.take_length] at all4
      have g5 := Grow.new (m := []) hl5 (.lst ws)
      exact hk _ _ ⟨l5, ws, rfl, upd_same, all4.imp fun x row h => g5.board h, g4.trans g5⟩
    rintro _ H4 ⟨l4, zs, rfl, hl4, all4, g4⟩
    have zl : zs.length = (ownR k rows ks (bdF b) j).length := all4.len
    have opm := own_perm (bd := bdF b) (j := j) k4 hs R PA
    have two : ∀ r ∈ ownR k rows ks (bdF b) j, ∃ p q, r = [p, q] := fun r hr' => rowsT_two43 (opm.mem_iff.mp hr')
    have alen := arr_len (rows := rows) (j := j) k4 hs R
    have olen : (ownR k rows ks (bdF b) j).length = (arrR k rows ks k (j % 2 ^ k) j).length := by rw [opm.length_eq, rowsT_len]
    have fj : (finL k rows ks b)[j]? = some (bdF b j + ((ownR k rows ks (bdF b) j).map fun r => r.getD 1 0).sum) := by
      rw [← val_fin (b := b) k4 hs R, valD_get hj', due_at k4 hs, run_add (fun a ha => PA a (arr_ks k4 hs ha))]
      have := sum_perm43 (opm.map fun r => r.getD 1 0)
      rw [rowsT_adds43] at this
      rw [this]; rfl
    refine c_test (fun c H' => c = false ∧ Grow [] H4 H') (fun Kk hk => ⟨_, rfl, rt, _, 1, .ref r2, rfl, rfl, g4.sqT h03, rfl, _, rfl, r2, _, _, _, rfl, rfl, g4.sqT h23, atI_map (j := j) (by omega) fj, _, rfl, _, rfl, rb, _, _, _, rfl, rfl, g4.sqT hrb3, atI_map (j := j) (by omega) (bdF_get hj'), _, rfl, l4, rfl, ⟨_, SqL.of hl4⟩, comp_listG43 (xs := zs) (fun i ys σ' H' => H' = H4 ∧ (∃ e0 e1, σ' = [e0, e1]) ∧ ys = (((ownR k rows ks (bdF b) j).take i).map fun r => r.getD 1 0).map V.int) ⟨rfl, ⟨_, _, rfl⟩, rfl⟩ (fun i ys σ' H' _ z => by rw [z.1]; exact SqL.of hl4) ?_ ?_⟩) ?_
    · rintro i x ys σ' H' hx ⟨rfl, ⟨e0, e1, rfl⟩, rfl⟩
      obtain ⟨row, hrow, r, rfl, hr1⟩ := all4.get hx
      obtain ⟨p, q', rfl⟩ := two _ (List.mem_of_getElem? hrow)
      have hi := (List.getElem?_eq_some_iff.mp hrow).1
      refine ⟨r, [.int p, .int q'], rfl, hr1, rfl, _, _, rfl, _, _, rfl, rfl, _, rfl, smallR (by rw [List.length_map, List.length_map, List.length_take]; omega), rfl, ⟨_, _, rfl⟩, ?_⟩
      rw [List.take_succ, hrow, List.map_append, List.map_append]; rfl
    · rintro ys σ' H' ⟨rfl, _, rfl⟩ l5 hl5
      rw [zl, List.take_length]
      refine ⟨l5, _, rfl, SqL.of upd_same, _, _, rfl, rfl, rfl, _, rfl, hk _ _ ⟨?_, Grow.new hl5 _⟩⟩
      simp
    rintro _ H5 ⟨rfl, g5⟩
    refine iteF (c_next ?_)
    have hl5 := g5.keep _ _ (by simp) hl4
    have all5 := all4.imp fun x row h => g5.board h
    refine ⟨_, rfl, szl rfl, fun l6 hl6 => ⟨l4, l6, zs, rfl, rfl, SqL.of ((Grow.new (m := []) hl6 _).keep _ _ (by simp) hl5), SqL.of upd_same, _, rfl, ?_⟩⟩
    have g6 := Grow.new (m := []) hl6 (.lst [])
    have G6 := g4.trans (g5.trans g6)
    cases zs with
    | nil => exact iteF (iteF ⟨_, _, rfl, g3.trans G6⟩)
    | cons z0 zs0 =>
      have nT : arrR k rows ks k (j % 2 ^ k) j ≠ [] := fun z => by
        rw [olen, z] at zl; cases zl
      refine iteT ⟨_, rfl, _, rfl, rb, _, _, _, rfl, rfl, G6.sqT hrb3, atI_map (j := j) (by omega) (bdF_get hj'), _, rfl, _, _, rfl, bdF b j, l4, _, arrR k rows ks k (j % 2 ^ k) j, _, rfl, rfl, g6.keep _ _ (by simp) hl5, all5.imp (fun x row h => g6.board h), opm, nT, alen, ?_, fun H7 g7 => ⟨_, rfl, iteF ⟨_, _, rfl, g3.trans (G6.trans g7)⟩⟩⟩
      have hm : ∀ x ∈ (arrR k rows ks k (j % 2 ^ k) j).map (·.deed.add), x ∈ ks.map (·.deed.add) := fun x hx => by
        obtain ⟨a, ha, rfl⟩ := List.mem_map.mp hx
        exact List.mem_map.mpr ⟨a, arr_ks k4 hs ha, rfl⟩
      rcases dok with h | ⟨c, h⟩
      · exact .inl fun x hx => h x (hm x hx)
      · exact .inr ⟨c, fun x hx => h x (hm x hx)⟩
  · rintro σ H3 ⟨e3, e4, rfl, g3⟩
    exact q _ (G2.trans g3)
theorem sc_made : FnScope ["deed", "value", "add", "low", "high", "result"] ["deed", "value"] (defScope (top 13)) := ⟨rfl, rfl, rfl, by decide +kernel, rfl, by decide +kernel, by decide +kernel⟩
set_option maxHeartbeats 0 in
theorem ok_made {n : Nat} {f : Addr} {fd : FuncData} (F : Fun K "made" "made" (top 13) f fd) (B : Blt mg)     :
    FnOk P w K mg base CX0 (n + 1) f fd ["deed", "value"] (sp_made K) := by
  refine F.ok sc_made sp2_len (fun cdv A outer s H vs Q E hr h => ?_)
  obtain ⟨x, y, rfl, d, v, ⟨a, rfl, hs⟩, rfl, q⟩ := h
  refine ⟨_, (pss_cons (ps_asg (pv 0) (pg_tup rfl (pgs_cons (pg_name (i := 2) sc_made.nd rfl (Or.inl rfl)) (pgs_cons (pg_name (i := 3) sc_made.nd rfl (Or.inl rfl)) (pgs_cons (pg_name (i := 4) sc_made.nd rfl (Or.inl rfl)) pgs_nil))))) (pss_cons (ps_set (i := 5) sc_made.nd rfl (Or.inl rfl) (pe_op op_add (pv 1) (pv 2))) (pss_cons (ps_if (PW.pt (pw_and (pt_cmp (pc_notN (pv 3))) (pw_and1 (pt_cmpR op_gt (pv 3) (pv 5) (nomark _))))) (pss_one (ps_set (i := 5) sc_made.nd rfl (Or.inl rfl) (pv 3))) pss_nil) (pss_cons (ps_if (PW.pt (pw_and (pt_cmp (pc_notN (pv 4))) (pw_and1 (pt_cmpR op_lt (pv 4) (pv 5) (nomark _))))) (pss_one (ps_set (i := 5) sc_made.nd rfl (Or.inl rfl) (pv 4))) pss_nil) (pss_one (ps_ret (pv 5))))))), ?_⟩
  obtain ⟨ad, lo, hi⟩ := d
  refine ⟨_, rfl, a, _, rfl, hs, rfl, _, _, rfl, _, _, rfl, _, _, rfl, rfl, ?_⟩
  refine ⟨_, rfl, _, rfl, _, _, rfl, rfl, ?_⟩
  cases lo with
  | none =>
    refine ⟨_, rfl, _, rfl, iteF (iteF ?_)⟩
    cases hi with
    | none => exact ⟨_, rfl, _, rfl, iteF (iteF ⟨_, rfl, q⟩)⟩
    | some u =>
      refine ⟨_, rfl, _, rfl, iteT ⟨_, rfl, _, rfl, _, _, rfl, rfl, _, rfl, ?_⟩⟩
      have q' : Q (.int (if u < v + ad then u else v + ad)) H := q
      refine ite2 (fun c => ?_) (fun c => ?_)
      · have c' : u < v + ad := of_decide_eq_true c
        rw [if_pos c'] at q'
        exact ⟨_, rfl, _, rfl, q'⟩
      · have c' : ¬ u < v + ad := fun z => c (decide_eq_true z)
        rw [if_neg c'] at q'
        exact ⟨_, rfl, q'⟩
  | some l =>
    refine ⟨_, rfl, _, rfl, iteT ⟨_, rfl, _, rfl, _, _, rfl, rfl, _, rfl, ?_⟩⟩
    have q0 : Q (.int (clampHi hi (if l > v + ad then l else v + ad))) H := q
    clear q
    refine ite2 (fun c => ?_) (fun c => ?_)
    · have c' : l > v + ad := of_decide_eq_true c
      rw [if_pos c'] at q0
      have q := q0
      refine ⟨_, rfl, ?_⟩
      cases hi with
      | none => exact ⟨_, rfl, _, rfl, iteF (iteF ⟨_, rfl, q⟩)⟩
      | some u =>
        refine ⟨_, rfl, _, rfl, iteT ⟨_, rfl, _, rfl, _, _, rfl, rfl, _, rfl, ?_⟩⟩
        have q' : Q (.int (if u < l then u else l)) H := q
        refine ite2 (fun c => ?_) (fun c => ?_)
        · have c' : u < l := of_decide_eq_true c
          rw [if_pos c'] at q'
          exact ⟨_, rfl, _, rfl, q'⟩
        · have c' : ¬ u < l := fun z => c (decide_eq_true z)
          rw [if_neg c'] at q'
          exact ⟨_, rfl, q'⟩
    · have c' : ¬ l > v + ad := fun z => c (decide_eq_true z)
      rw [if_neg c'] at q0
      have q := q0
      cases hi with
      | none => exact ⟨_, rfl, _, rfl, iteF (iteF ⟨_, rfl, q⟩)⟩
      | some u =>
        refine ⟨_, rfl, _, rfl, iteT ⟨_, rfl, _, rfl, _, _, rfl, rfl, _, rfl, ?_⟩⟩
        have q' : Q (.int (if u < v + ad then u else v + ad)) H := q
        refine ite2 (fun c => ?_) (fun c => ?_)
        · have c' : u < v + ad := of_decide_eq_true c
          rw [if_pos c'] at q'
          exact ⟨_, rfl, _, rfl, q'⟩
        · have c' : ¬ u < v + ad := fun z => c (decide_eq_true z)
          rw [if_neg c'] at q'
          exact ⟨_, rfl, q'⟩
theorem sc_figure : FnScope ["k", "stage", "line"] ["k", "stage", "line"] (defScope (top 28)) := ⟨rfl, rfl, rfl, by decide +kernel, rfl, by decide +kernel, by decide +kernel⟩
set_option maxHeartbeats 0 in
theorem ok_figure {n : Nat} {f : Addr} {fd : FuncData} (F : Fun K "figure" "figure" (top 28) f fd) (B : Blt mg)     :
    FnOk P w K mg base CX0 (n + 1) f fd ["k", "stage", "line"] (sp_figure K) := by
  refine F.ok sc_figure sp3_len (fun cdv A outer s H vs Q E hr h => ?_)
  obtain ⟨x, y, z, rfl, k, st, l, rfl, rfl, rfl, hs, q⟩ := h
  refine ⟨_, (pss_one (ps_ret (pe_op op_and (pe_op op_shr (pv 2) (pe_op op_sub (pv 0) (pv 1))) pe_int))), ?_⟩
  exact ⟨_, rfl, _, rfl, _, rfl, _, _, rfl, rfl, _, _, rfl, rfl, (by show (0 : Int) ≤ (k : Int) - st; omega), _, _, rfl, rfl, q⟩
theorem sc_with_figure : FnScope ["k", "stage", "line", "wanted"] ["k", "stage", "line", "wanted"] (defScope (top 29)) := ⟨rfl, rfl, rfl, by decide +kernel, rfl, by decide +kernel, by decide +kernel⟩
set_option maxHeartbeats 0 in
theorem ok_with_figure {n : Nat} {f : Addr} {fd : FuncData} (F : Fun K "with_figure" "with_figure" (top 29) f fd) (B : Blt mg) (c_figure : Callee P w K mg base n "figure" ["k", "stage", "line"] (sp_figure K))    :
    FnOk P w K mg base CX0 (n + 1) f fd ["k", "stage", "line", "wanted"] (sp_with_figure K) := by
  refine F.ok sc_with_figure sp4_len (fun cdv A outer s H vs Q E hr h => ?_)
  obtain ⟨x, y, z, u, rfl, k, st, l, w, rfl, rfl, rfl, rfl, k4, hs, l0, l1, hw, q⟩ := h
  refine ⟨_, (pss_one (ps_ret (pe_op op_xor (pv 2) (pe_op op_shl (pe_op op_xor (pe_callC c_figure hr rfl (pa_cons (pv 0) (pa_cons (pv 1) (pa_cons (pv 2) pa_nil)))) (pv 3)) (pe_op op_sub (pv 0) (pv 1)))))), ?_⟩
  have F := figF k4 hs l0 l1
  refine ⟨_, rfl, _, rfl, _, rfl, _, rfl, _, _, _, rfl, k, st, l, rfl, rfl, rfl, hs, _, rfl, _, _, rfl, rfl, _, rfl, _, rfl, _, _, rfl, rfl, _, _, rfl, rfl, ⟨by show (0 : Int) ≤ (k : Int) - st; omega, by show (k : Int) - st ≤ 1000000; omega, F.2 w hw⟩, _, _, rfl, rfl, q⟩
theorem sc_switch_at : FnScope ["k", "stage", "line", "behind"] ["k", "stage", "line"] (defScope (top 31)) := ⟨rfl, rfl, rfl, by decide +kernel, rfl, by decide +kernel, by decide +kernel⟩
set_option maxHeartbeats 0 in
theorem ok_switch_at {n : Nat} {f : Addr} {fd : FuncData} (F : Fun K "switch_at" "switch_at" (top 31) f fd) (B : Blt mg)     :
    FnOk P w K mg base CX0 (n + 1) f fd ["k", "stage", "line"] (sp_switch_at K) := by
  refine F.ok sc_switch_at sp3_len (fun cdv A outer s H vs Q E hr h => ?_)
  obtain ⟨x, y, z, rfl, k, st, l, rfl, rfl, rfl, k4, hs, l0, l1, q⟩ := h
  refine ⟨_, (pss_cons (ps_set (i := 3) sc_switch_at.nd rfl (Or.inl rfl) (pe_op op_sub (pv 0) (pv 1))) (pss_one (ps_ret (pe_op op_or (pe_op op_shl (pe_op op_shr (pv 2) (pe_op op_add (pv 3) pe_int)) (pv 3)) (pe_op op_and (pv 2) (pe_op op_sub (pe_op op_shl pe_int (pv 3)) pe_int)))))), ?_⟩
  have e1 : (0 : Int) ≤ l / 2 ^ ((k : Int) - st + 1).toNat := Int.ediv_nonneg l0 (Int.le_of_lt (Int.pow_pos (by decide)))
  have e2 : l / 2 ^ ((k : Int) - st + 1).toNat ≤ l := Int.ediv_le_self _ l0
  refine ⟨_, rfl, _, rfl, _, _, rfl, rfl, _, rfl, _, rfl, _, _, rfl, rfl, _, _, rfl, rfl, (by show (0 : Int) ≤ (k : Int) - st + 1; omega), _, rfl, _, _, rfl, rfl, ⟨by show (0 : Int) ≤ (k : Int) - st; omega, by show (k : Int) - st ≤ 1000000; omega, by show (l / 2 ^ ((k : Int) - st + 1).toNat).natAbs < 2 ^ 64; omega⟩, ?_⟩
  exact ⟨_, rfl, _, rfl, _, _, rfl, rfl, ⟨by show (0 : Int) ≤ (k : Int) - st; omega, by show (k : Int) - st ≤ 1000000; omega, by decide⟩, _, _, rfl, rfl, _, _, rfl, rfl, _, _, rfl, rfl, q⟩
theorem sc_in_order : FnScope ["k", "stage", "line", "firsts", "first"] ["k", "stage", "line", "firsts"] (defScope (top 40)) := ⟨rfl, rfl, rfl, by decide +kernel, rfl, by decide +kernel, by decide +kernel⟩
set_option maxHeartbeats 0 in
theorem ok_in_order {n : Nat} {f : Addr} {fd : FuncData} (F : Fun K "in_order" "in_order" (top 40) f fd) (B : Blt mg) (c_with_figure : Callee P w K mg base n "with_figure" ["k", "stage", "line", "wanted"] (sp_with_figure K)) (c_switch_at : Callee P w K mg base n "switch_at" ["k", "stage", "line"] (sp_switch_at K))    :
    FnOk P w K mg base CX0 (n + 1) f fd ["k", "stage", "line", "firsts"] (sp_in_order K) := by
  refine F.ok sc_in_order sp4_len (fun cdv A outer s H vs Q E hr h => ?_)
  obtain ⟨x, y, z, u, rfl, k, st, l, rows, rfl, rfl, rfl, ⟨rs, xs, rfl, hs, hall⟩, k4, s1, s2, hl, hset, q⟩ := h
  refine ⟨_, (pss_cons (ps_set (i := 4) sc_in_order.nd rfl (Or.inl rfl) (pe_ix ix_tup (pe_ix ix_tup (pv 3) (pe_op op_sub (pv 1) pe_int) (fun _ _ => rfl)) (pe_callC c_switch_at hr rfl (pa_cons (pv 0) (pa_cons (pv 1) (pa_cons (pv 2) pa_nil)))) (fun _ _ => rfl))) (pss_one (ps_ret (pe_tup (pa_cons (pe_callC c_with_figure hr rfl (pa_cons (pv 0) (pa_cons (pv 1) (pa_cons (pv 2) (pa_cons (pv 4) pa_nil))))) (pa_cons (pe_callC c_with_figure hr rfl (pa_cons (pv 0) (pa_cons (pv 1) (pa_cons (pv 2) (pa_cons (pe_op op_sub pe_int (pv 4)) pa_nil))))) pa_nil)))))), ?_⟩
  have p := pow16 k4
  have O := oneF k4 s1 s2 hl
  have hlt := O.lt
  have hf := fst01 k4 hset s1 s2 hl
  have hb := hset.bits (show st - 1 < k by omega)
  obtain ⟨ra, hra, hsa⟩ := getRow hall (i := (st : Int) - 1) (by omega) (by rw [hset.1]; omega)
  rw [show ((st : Int) - 1).toNat = st - 1 by omega] at hsa
  refine ⟨_, rfl, _, rfl, _, _, rfl, rfl, rs, _, _, _, rfl, rfl, hs, hra, _, rfl, _, rfl, _, rfl, _, _, _, rfl, k, st, l, rfl, rfl, rfl, k4, s2, by omega, by omega, ?_⟩
  rw [O.sw, O.num]
  have hg := getI (xs := rows.getD (st - 1) []) (i := (nN k st l : Int)) (by omega) (by rw [hb.1]; omega)
  rw [Int.toNat_natCast] at hg
  refine ⟨ra, _, _, _, rfl, rfl, hsa, hg, ?_⟩
  have W1 := wfF k4 s1 s2 hl hf
  have W2 := wfF k4 s1 s2 hl (show 1 - fstI rows st (nN k st l) = 0 ∨ 1 - fstI rows st (nN k st l) = 1 by omega)
  refine ⟨_, rfl, _, rfl, _, rfl, _, rfl, _, _, _, _, rfl, k, st, l, fstI rows st (nN k st l), rfl, rfl, rfl, rfl, k4, s2, by omega, by omega, hf, ?_⟩
  refine ⟨_, rfl, _, rfl, _, rfl, _, rfl, _, _, rfl, rfl, _, _, _, _, rfl, k, st, l, 1 - fstI rows st (nN k st l), rfl, rfl, rfl, rfl, k4, s2, by omega, by omega, by omega, szl rfl, fun t ht => ?_⟩
  refine q _ _ (Grow.new ht _) ⟨t, rfl, SqT.of ?_⟩
  rw [upd_same, W1.eq, W2.eq]; rfl
theorem sc_onward : FnScope ["k", "stage", "line", "side"] ["k", "stage", "line", "side"] (defScope (top 30)) := ⟨rfl, rfl, rfl, by decide +kernel, rfl, by decide +kernel, by decide +kernel⟩
set_option maxHeartbeats 0 in
theorem ok_onward {n : Nat} {f : Addr} {fd : FuncData} (F : Fun K "onward" "onward" (top 30) f fd) (B : Blt mg) (c_with_figure : Callee P w K mg base n "with_figure" ["k", "stage", "line", "wanted"] (sp_with_figure K)) (c_figure : Callee P w K mg base n "figure" ["k", "stage", "line"] (sp_figure K))    :
    FnOk P w K mg base CX0 (n + 1) f fd ["k", "stage", "line", "side"] (sp_onward K) := by
  refine F.ok sc_onward sp4_len (fun cdv A outer s H vs Q E hr h => ?_)
  obtain ⟨x, y, z, u, rfl, k, st, l, s, rfl, rfl, rfl, rfl, k4, hs, l0, l1, s0, s1, q⟩ := h
  refine ⟨_, (pss_one (ps_ret (pe_callC c_with_figure hr rfl (pa_cons (pv 0) (pa_cons (pv 1) (pa_cons (pv 2) (pa_cons (pe_callC c_figure hr rfl (pa_cons (pv 0) (pa_cons (pv 1) (pa_cons (pv 3) pa_nil)))) pa_nil))))))), ?_⟩
  have F := figF k4 hs s0 s1
  exact ⟨_, rfl, _, rfl, _, rfl, _, rfl, _, rfl, _, rfl, _, _, _, rfl, k, st, s, rfl, rfl, rfl, hs, _, _, _, _, rfl, k, st, l, _, rfl, rfl, rfl, rfl, k4, hs, l0, l1, F.1, q⟩
theorem sc_side_for : FnScope ["k", "box"] ["k", "box"] (defScope (top 38)) := ⟨rfl, rfl, rfl, by decide +kernel, rfl, by decide +kernel, by decide +kernel⟩
set_option maxHeartbeats 0 in
theorem ok_side_for {n : Nat} {f : Addr} {fd : FuncData} (F : Fun K "side_for" "side_for" (top 38) f fd) (B : Blt mg)     :
    FnOk P w K mg base CX0 (n + 1) f fd ["k", "box"] (sp_side41 K) := by
  refine F.ok sc_side_for sp2_len (fun cdv A outer s H vs Q E hr h => ?_)
  obtain ⟨x, y, rfl, k, b, rfl, rfl, k4, b16, q⟩ := h
  refine ⟨_, (pss_one (ps_ret (pe_op op_and (pv 1) (pe_op op_sub (pe_op op_shl pe_int (pv 0)) pe_int)))), ?_⟩
  refine ⟨_, rfl, _, rfl, _, _, rfl, rfl, shlOne k4, _, _, rfl, rfl, _, _, rfl, rfl, ?_⟩
  have e := side_and k4 b16
  show Q (.int (Builtin.bitAnd (b : Int) (1 * 2 ^ ((k : Int)).toNat - 1))) H
  rw [e]
  exact q
theorem sc_share_stage : FnScope ["k", "stage", "asked", "kept", "firsts", "answers", "shared", "line", "box", "answer", "place", "first", "other"] ["k", "stage", "asked", "kept", "firsts", "answers"] (defScope (top 43)) := ⟨rfl, rfl, rfl, by decide +kernel, rfl, by decide +kernel, by decide +kernel⟩
set_option maxHeartbeats 0 in
theorem ok_share_stage {n : Nat} {f : Addr} {fd : FuncData} (F : Fun K "share_stage" "share_stage" (top 43) f fd) (B : Blt mg) (c_made : Callee P w K mg base n "made" ["deed", "value"] (sp_made K)) (c_in_order : Callee P w K mg base n "in_order" ["k", "stage", "line", "firsts"] (sp_in_order K)) (c_switch_at : Callee P w K mg base n "switch_at" ["k", "stage", "line"] (sp_switch_at K)) (c_onward : Callee P w K mg base n "onward" ["k", "stage", "line", "side"] (sp_onward K)) (c_side_for : Callee P w K mg base n "side_for" ["k", "box"] (sp_side41 K))    :
    FnOk P w K mg base CX0 (n + 1) f fd ["k", "stage", "asked", "kept", "firsts", "answers"] (sp_share41 K) := by
  refine F.ok sc_share_stage sp6_len (fun cdv A outer s H vs Q E hr h => ?_)
  obtain ⟨x, y, z, u, w', v, rfl, k, st, m, d, kp, an, rows, ks, bd, rfl, rfl, rfl, rfl, rfl, k4, s1, sk, m16, hd, hkp, hrw, hs, R, han, ndk, nda, q⟩ := h
  refine ⟨_, (pss_cons (ps_set (i := 6) sc_share_stage.nd rfl (Or.inl rfl) pe_dnewT) (pss_cons (ps_for PassesOwn.never rfl (pi_dT (pv 2)) (pg_tup rfl (pgs_cons (pg_name (i := 7) sc_share_stage.nd rfl (Or.inl rfl)) (pgs_cons (pg_name (i := 8) sc_share_stage.nd rfl (Or.inl rfl)) pgs_nil))) (pss_cons (ps_set (i := 9) sc_share_stage.nd rfl (Or.inl rfl) (pe_dget (Room.u1F hr) (pv 5) (pe_tup (pa_cons (pe_callC c_onward hr rfl (pa_cons (pv 0) (pa_cons (pv 1) (pa_cons (pv 7) (pa_cons (pe_callC c_side_for hr rfl (pa_cons (pv 0) (pa_cons (pv 8) pa_nil))) pa_nil))))) (pa_cons (pv 8) pa_nil))) (fun _ _ => rfl))) (pss_cons (ps_set (i := 10) sc_share_stage.nd rfl (Or.inl rfl) (pe_tup (pa_cons (pe_callC c_switch_at hr rfl (pa_cons (pv 0) (pa_cons (pv 1) (pa_cons (pv 7) pa_nil)))) (pa_cons (pv 8) pa_nil)))) (pss_cons (ps_asg (pe_callC c_in_order hr rfl (pa_cons (pv 0) (pa_cons (pv 1) (pa_cons (pv 7) (pa_cons (pv 4) pa_nil))))) (pg_tup rfl (pgs_cons (pg_name (i := 11) sc_share_stage.nd rfl (Or.inl rfl)) (pgs_cons (pg_name (i := 12) sc_share_stage.nd rfl (Or.inl rfl)) pgs_nil)))) (pss_cons (ps_if (PW.pt (pw_and (pt_cmpR op_eq (pv 7) (pv 12) (nomark _)) (pw_and1 (pt_cmp (pc_din (Room.u1F hr) (pv 10) (pv 3)))))) (pss_one (ps_set (i := 9) sc_share_stage.nd rfl (Or.inl rfl) (pe_callC c_made hr rfl (pa_cons (pe_dget (Room.u1F hr) (pv 3) (pv 10) (fun _ _ => rfl)) (pa_cons (pv 9) pa_nil))))) pss_nil) (pss_one (ps_dput (Room.u1F hr) (pv 6) (pe_tup (pa_cons (pv 7) (pa_cons (pv 8) pa_nil))) (pv 9) rfl))))))) (pss_one (ps_ret (pv 6))))), ?_⟩
  have p16 := pow16 k4
  have es : st = st - 1 + 1 := by omega
  obtain ⟨kvs, hrd, tab, kl⟩ := hd
  obtain ⟨kk, hkr, kkl, kk3, kk4, kk5⟩ := hkp
  obtain ⟨ak, har, atab, akl⟩ := han
  refine c_asg (fun v H' => ∃ b0, v = .ref b0 ∧ H b0 = none ∧ H' = upd H b0 (.dT [])) (fun Kk hk => fun p hp => hk _ _ ⟨p, rfl, hp, rfl⟩) ?_
  rintro _ _ ⟨b0, rfl, hb0, rfl⟩
  have g1 := Grow.new (m := []) hb0 (.dT [])
  have eB1 := upd_same (H := H) (a := b0) (o := .dT [])
  generalize upd H b0 (.dT []) = H1 at g1 eB1 ⊢
  have nb : d ≠ b0 := fun z => Rd.ne_none hrd (z ▸ hb0)
  have nkb : kp ≠ b0 := fun z => Rd.ne_none hkr (z ▸ hb0)
  have nab : an ≠ b0 := fun z => Rd.ne_none har (z ▸ hb0)
  refine ⟨_, rfl, d, kvs, rfl, Rd.growR g1 (.inl (by simp)) hrd, fun o H3 hd3 g3 same3 => ?_⟩
  have eB3 : H3 b0 = some (.dT []) := by rw [same3 b0 (Ne.symm nb)]; exact eB1
  have hkr3 : Rd H3 kp (.dT kk) := Rd.growR g3 (.inl (by simpa using Ne.symm ndk)) (Rd.growR g1 (.inl (by simp)) hkr)
  have har3 : Rd H3 an (.dT ak) := Rd.growR g3 (.inl (by simpa using Ne.symm nda)) (Rd.growR g1 (.inl (by simp)) har)
  have hrw3 := g3.rows (g1.rows hrw)
  have tab3 : TabR kvs (2 ^ k) m (lvR k rows ks (st - 1)) (DeedAt K H3) := tab.imp fun v x hv => g3.deed (g1.deed hv)
  refine for_dT (fun i σ H' => ∃ (e7 e8 e9 e10 e11 e12 : Option V) (tk : List (List Key × V)), σ = [some (.int k), some (.int st), some (.ref d), some (.ref kp), some w', some (.ref an), some (.ref b0), e7, e8, e9, e10, e11, e12] ∧ Grow [b0] H3 H' ∧ H' b0 = some (.dT tk) ∧ PTab kvs (2 ^ k) m (anF k rows ks bd (st - 1)) (fun v x => v = .int x) i tk) ?_ ?_ ?_ ?_
  · exact ⟨_, _, _, _, _, _, [], rfl, Grow.refl _ _, eB3, PTab.nil⟩
  · rintro i σ H' _ ⟨e7, e8, e9, e10, e11, e12, tk, rfl, g, _⟩
    exact g.frz _ _ _ hd3
  · rintro i p bb σ H4 hp hbb ⟨e7, e8, e9, e10, e11, e12, tk, rfl, g4, hB4, P4⟩
    obtain ⟨l, b, dd, ep, hl, hb, hlv, hdd⟩ := tab3.keys p (List.mem_of_getElem? hp)
    obtain ⟨pk, v⟩ := p
    cases (show pk = keyR l b from ep)
    have b16 : b < 16 := by omega
    have hi : i < kvs.length := (List.getElem?_eq_some_iff.mp hp).1
    have W := outF (b := b) k4 s1 sk hl
    have X := xF (rows := rows) k4 hs s1 sk hl
    have O := oneF k4 s1 sk hl
    have lvo : lvR k rows ks st (outR k st l b) b ≠ none := by
      have e := lv_out (ks := ks) (b := b) k4 hs (s := st - 1) (by omega) hl
      rw [← es] at e
      rw [e]
      rcases X.or with z | z
      · rw [← z, hlv]; cases lvR k rows ks (st - 1) (x1R k rows st l) b <;> exact fun z => nomatch z
      · rw [← z, hlv]; cases lvR k rows ks (st - 1) (x0R k rows st l) b <;> exact fun z => nomatch z
    refine ⟨bb, [.int l, .int b], rfl, SqT.of hbb, rfl, _, _, rfl, _, _, rfl, rfl, ?_⟩
    refine c_asg (fun v H' => v = .int (stvR k rows ks bd (k - st) (outR k st l b) b) ∧ Grow [] H4 H') (fun Kk hk => ⟨_, rfl, _, rfl, _, rfl, _, rfl, _, rfl, _, rfl, _, _, rfl, k, b, rfl, rfl, k4, b16, _, _, _, _, rfl, k, st, l, ((b % 2 ^ k : Nat) : Int), rfl, rfl, rfl, rfl, k4, sk, by omega, by omega, by omega, by have := side_lt (k := k) (b := b); omega, _, rfl, szl rfl, fun t ht => ?_⟩) ?_
    · have gt := Grow.new (m := []) ht (.tup [.int (wfI k st l (figI k st ((b % 2 ^ k : Nat) : Int))), .int b])
      have et : upd H4 t (.tup [.int (wfI k st l (figI k st ((b % 2 ^ k : Nat) : Int))), .int b]) t = some (.tup [.int (outR k st l b : Nat), .int b]) := by rw [upd_same, W.eq]; rfl
      have vv := atab.val (l := outR k st l b) (b := b) W.lt hb
      unfold anF at vv
      cases hc : lvR k rows ks st (outR k st l b) b with
      | none => exact absurd hc lvo
      | some dc =>
        rw [hc] at vv
        obtain ⟨v', ev, rfl⟩ := vv
        have gx := dget_rd (Rd.growR (gt.wk (m := [b0])) (.inl (by simpa using nab)) (Rd.growR g4 (.inl (by simpa using nab)) har3)) et
        rw [ev] at gx
        exact ⟨an, _, rfl, gx, hk _ _ ⟨rfl, gt⟩⟩
    rintro _ H5 ⟨rfl, g5⟩
    refine c_asg (fun v H' => ∃ t, v = .ref t ∧ H' t = some (.tup [.int (nN k st l : Nat), .int b]) ∧ Grow [] H5 H') (fun Kk hk => ⟨_, rfl, _, rfl, _, rfl, _, _, _, rfl, k, st, l, rfl, rfl, rfl, k4, sk, by omega, by omega, _, rfl, szl rfl, fun t ht => hk _ _ ⟨t, rfl, ?_, Grow.new ht _⟩⟩) ?_
    · rw [upd_same, O.sw, O.num]
    rintro _ H6 ⟨t, rfl, ht6, g6⟩
    have G6 := g5.trans g6
    refine ⟨_, rfl, _, rfl, _, rfl, _, rfl, _, _, _, _, rfl, k, st, l, rows, rfl, rfl, rfl, G6.rows (g4.rows hrw3), k4, s1, sk, hl, hs, fun y H7 g7 hn => ?_⟩
    obtain ⟨ri, rfl, hri⟩ := hn
    refine ⟨ri, [.int (x0R k rows st l : Nat), .int (x1R k rows st l : Nat)], rfl, hri, rfl, _, _, rfl, _, _, rfl, rfl, ?_⟩
    have G7 : Grow [b0] H3 H7 := g4.trans (G6.trans g7).wk
    have ht7 := g7.keep _ _ (by simp) ht6
    have hB7 := (G6.trans g7).keep _ _ (by simp) hB4
    have hkr7 := Rd.growR G7 (.inl (by simpa using nkb)) hkr3
    have dk := dget_rd hkr7 ht7
    have kv := KpAt.val (K := K) (H := H7) (kvs := kk) (ks := ks) (rows := rows) (m := m) k4 hs s1 sk hl hb (fun p hp => by obtain ⟨l, b, x, e, a1, a2, a3, a4⟩ := kk3 p hp; exact ⟨l, b, x, e, a1, a2, a3, G7.deed (g3.deed (g1.deed a4))⟩) kk5
    have sv := stv_step (k := k) (rows := rows) (ks := ks) (bd := bd) (l := l) (b := b) s1 sk
    refine c_nx (c_if (fun σ' H' => H' = H7 ∧ σ' = [some (.int k), some (.int st), some (.ref d), some (.ref kp), some w', some (.ref an), some (.ref b0), some (.int l), some (.int b), some (.int (stvR k rows ks bd (k - (st - 1)) l b)), some (.ref t), some (.int (x0R k rows st l : Nat)), some (.int (x1R k rows st l : Nat))]) ?_ (fun hk => ?_))
    · rintro σ' H' ⟨rfl, rfl⟩
      refine ⟨_, rfl, _, rfl, _, rfl, _, rfl, szl rfl, fun t2 ht2 => ?_⟩
      have g8 := Grow.new (m := []) ht2 (.tup [.int l, .int b])
      have hB8 := g8.keep _ _ (by simp) hB7
      have P8 := P4.p4
      refine ⟨b0, _, rfl, DPut.t (k := keyR l b) hB8 upd_same (smallR (by omega)), ?_⟩
      refine ⟨_, _, _, _, _, _, _, rfl, G7.trans (g8.wk.trans (Grow.setR hB8 (by simp))), upd_same, P4.step hp hl hb ?_ rfl⟩
      show (lvR k rows ks (st - 1) l b).map _ = _
      rw [hlv]; rfl
    · have eqc : decide (V.int (l : Int) = V.int ((x1R k rows st l : Nat) : Int)) = decide (l = x1R k rows st l) := by
        by_cases c : l = x1R k rows st l
        · rw [decide_eq_true c, decide_eq_true (congrArg (fun x : Nat => V.int (x : Int)) c)]
        · rw [decide_eq_false c, decide_eq_false fun z => c (by have := V.int.inj z; omega)]
      refine ⟨_, rfl, _, rfl, rfl, _, rfl, ?_⟩
      by_cases c : l = x1R k rows st l
      · refine iteT' (by rw [eqc, decide_eq_true c]) ⟨_, rfl, _, rfl, kp, _, rfl, dk, _, rfl, ?_⟩
        cases hk' : kpR k rows ks st l b with
        | none =>
          rw [hk'] at kv sv
          have kv' : valV kk (keyR (nN k st l) b) = none := kv
          rw [kv']
          refine iteF (hk _ _ ⟨rfl, ?_⟩)
          rw [show stvR k rows ks bd (k - (st - 1)) l b = stvR k rows ks bd (k - st) (outR k st l b) b from sv]; rfl
        | some x =>
          rw [hk'] at kv sv
          obtain ⟨vx, ev, hvx⟩ := kv
          rw [ev] at dk ⊢
          refine iteT' rfl ⟨_, rfl, _, rfl, kp, vx, rfl, dk, _, rfl, _, _, rfl, x, _, hvx, rfl, hk _ _ ⟨rfl, ?_⟩⟩
          rw [show stvR k rows ks bd (k - (st - 1)) l b = x.mk' (stvR k rows ks bd (k - st) (outR k st l b) b) from by rw [sv]; exact if_pos c]; rfl
      · refine iteF' (by rw [eqc, decide_eq_false c]) (iteF (hk _ _ ⟨rfl, ?_⟩))
        have : stvR k rows ks bd (k - (st - 1)) l b = stvR k rows ks bd (k - st) (outR k st l b) b := by
          rw [sv]
          cases kpR k rows ks st l b with
          | none => rfl
          | some x => exact if_neg c
        rw [this]; rfl
  · rintro σ H4 ⟨e7, e8, e9, e10, e11, e12, tk, rfl, g4, hB4, P4⟩
    have G : Grow [d] H H4 := by
      have a1 : Grow [d, b0] H H3 := (g1.wk.trans (g3.mono (by simp)))
      refine (a1.trans (g4.mono (by simp))).less fun b hb => ?_
      simp only [List.mem_cons, List.mem_nil_iff, or_false] at hb
      rcases hb with rfl | rfl
      · exact .inl (by simp)
      · exact .inr hb0
    have T := P4.done tab3 (fun l b _ _ hne z => hne (by unfold anF; rw [z]; rfl))
    exact ⟨_, rfl, q b0 _ G hb0 ⟨tk, .inl hB4, T, Nat.le_trans P4.p4 kl⟩ ⟨kvs, .inr ⟨o, g4.frz _ _ _ hd3⟩, tab3.imp fun v x hv => g4.deed hv, kl⟩⟩
theorem sc_tidy : FnScope ["add", "low", "high"] ["add", "low", "high"] (defScope (top 14)) := ⟨rfl, rfl, rfl, by decide +kernel, rfl, by decide +kernel, by decide +kernel⟩
set_option maxHeartbeats 0 in
theorem ok_tidy {n : Nat} {f : Addr} {fd : FuncData} (F : Fun K "tidy" "tidy" (top 14) f fd) (B : Blt mg)     :
    FnOk P w K mg base CX0 (n + 1) f fd ["add", "low", "high"] (sp_tidy K) := by
  refine F.ok sc_tidy sp3_len (fun cdv A outer s H vs Q E hr h => ?_)
  obtain ⟨x, y, z, rfl, a, lo, hi, rfl, rfl, rfl, q⟩ := h
  refine ⟨_, (pss_cons (ps_if (PW.pt (pw_and (pt_cmp (pc_notN (pv 1))) (pw_and1 (pt_cmpR op_eq (pv 1) (pv 2) (nomark _))))) (pss_one (ps_ret (pe_tup (pa_cons pe_int (pa_cons (pv 1) (pa_cons (pv 2) pa_nil)))))) pss_nil) (pss_one (ps_ret (pe_tup (pa_cons (pv 0) (pa_cons (pv 1) (pa_cons (pv 2) pa_nil))))))), ?_⟩
  cases lo with
  | none =>
    refine ⟨_, rfl, _, rfl, iteF (iteF ⟨_, rfl, _, rfl, _, rfl, szl rfl, fun t ht => ?_⟩)⟩
    have := q t ht
    rw [tidy_n] at this; exact this
  | some l =>
    cases hi with
    | none =>
      refine ⟨_, rfl, _, rfl, iteT ⟨_, rfl, _, rfl, rfl, _, rfl, iteF ⟨_, rfl, _, rfl, _, rfl, szl rfl, fun t ht => ?_⟩⟩⟩
      have := q t ht
      rw [tidy_u (by simp)] at this; exact this
    | some u =>
      refine ⟨_, rfl, _, rfl, iteT ⟨_, rfl, _, rfl, rfl, _, rfl, ?_⟩⟩
      refine ite2 (fun c => ?_) (fun c => ?_)
      · have c' : l = u := V.int.inj (of_decide_eq_true c)
        subst c'
        refine ⟨_, rfl, _, rfl, szl rfl, fun t ht => ?_⟩
        have := q t ht
        rw [tidy_e] at this; exact this
      · have c' : l ≠ u := fun z => c (by rw [z]; simp)
        refine ⟨_, rfl, _, rfl, _, rfl, szl rfl, fun t ht => ?_⟩
        have := q t ht
        rw [tidy_u (fun z => c' (Option.some.inj z))] at this; exact this
theorem sc_joined : FnScope ["one", "other", "low", "high"] ["one", "other"] (defScope (top 15)) := ⟨rfl, rfl, rfl, by decide +kernel, rfl, by decide +kernel, by decide +kernel⟩
set_option maxHeartbeats 0 in
theorem ok_joined {n : Nat} {f : Addr} {fd : FuncData} (F : Fun K "joined" "joined" (top 15) f fd) (B : Blt mg) (c_tidy : Callee P w K mg base n "tidy" ["add", "low", "high"] (sp_tidy K)) (c_made : Callee P w K mg base n "made" ["deed", "value"] (sp_made K))    :
    FnOk P w K mg base CX0 (n + 1) f fd ["one", "other"] (sp_joined K) := by
  refine F.ok sc_joined sp2_len (fun cdv A outer s H vs Q E hr h => ?_)
  obtain ⟨x, y, rfl, d, e, ⟨a, rfl, hsa⟩, ⟨b, rfl, hsb⟩, q⟩ := h
  refine ⟨_, (pss_cons (ps_set (i := 2) sc_joined.nd rfl (Or.inl rfl) (pe_ifExp (pt_cmp (pc_isN (pe_ix ix_tup (pv 0) pe_int (fun _ _ => rfl)))) (pe_ix ix_tup (pv 1) pe_int (fun _ _ => rfl)) (pe_callC c_made hr rfl (pa_cons (pv 1) (pa_cons (pe_ix ix_tup (pv 0) pe_int (fun _ _ => rfl)) pa_nil))))) (pss_cons (ps_set (i := 3) sc_joined.nd rfl (Or.inl rfl) (pe_ifExp (pt_cmp (pc_isN (pe_ix ix_tup (pv 0) pe_int (fun _ _ => rfl)))) (pe_ix ix_tup (pv 1) pe_int (fun _ _ => rfl)) (pe_callC c_made hr rfl (pa_cons (pv 1) (pa_cons (pe_ix ix_tup (pv 0) pe_int (fun _ _ => rfl)) pa_nil))))) (pss_one (ps_ret (pe_callC c_tidy hr rfl (pa_cons (pe_op op_add (pe_ix ix_tup (pv 0) pe_int (fun _ _ => rfl)) (pe_ix ix_tup (pv 1) pe_int (fun _ _ => rfl))) (pa_cons (pv 2) (pa_cons (pv 3) pa_nil)))))))), ?_⟩
  obtain ⟨da, lo, hi⟩ := d
  obtain ⟨ea, elo, ehi⟩ := e
  refine ⟨_, rfl, a, _, _, _, rfl, rfl, hsa, rfl, _, rfl, ?_⟩
  cases lo with
  | none =>
    refine iteT ⟨_, rfl, b, _, _, _, rfl, rfl, hsb, rfl, ?_⟩
    refine ⟨_, rfl, a, _, _, _, rfl, rfl, hsa, rfl, _, rfl, ?_⟩
    cases hi with
    | none =>
      refine iteT ⟨_, rfl, b, _, _, _, rfl, rfl, hsb, rfl, ?_⟩
      exact ⟨_, rfl, a, _, _, _, rfl, rfl, hsa, rfl, _, rfl, b, _, _, _, rfl, rfl, hsb, rfl, _, _, rfl, rfl, _, rfl, _, rfl, _, _, _, rfl, _, elo, ehi, rfl, rfl, rfl, q⟩
    | some u =>
      refine iteF ⟨_, rfl, _, rfl, a, _, _, _, rfl, rfl, hsa, rfl, _, _, rfl, ⟨ea, elo, ehi⟩, u, ⟨b, rfl, hsb⟩, rfl, ?_⟩
      exact ⟨_, rfl, a, _, _, _, rfl, rfl, hsa, rfl, _, rfl, b, _, _, _, rfl, rfl, hsb, rfl, _, _, rfl, rfl, _, rfl, _, rfl, _, _, _, rfl, _, elo, some ((Deed.mk ea elo ehi).mk' u), rfl, rfl, rfl, q⟩
  | some l =>
    refine iteF ⟨_, rfl, _, rfl, a, _, _, _, rfl, rfl, hsa, rfl, _, _, rfl, ⟨ea, elo, ehi⟩, l, ⟨b, rfl, hsb⟩, rfl, ?_⟩
    refine ⟨_, rfl, a, _, _, _, rfl, rfl, hsa, rfl, _, rfl, ?_⟩
    cases hi with
    | none =>
      refine iteT ⟨_, rfl, b, _, _, _, rfl, rfl, hsb, rfl, ?_⟩
      exact ⟨_, rfl, a, _, _, _, rfl, rfl, hsa, rfl, _, rfl, b, _, _, _, rfl, rfl, hsb, rfl, _, _, rfl, rfl, _, rfl, _, rfl, _, _, _, rfl, _, (some ((Deed.mk ea elo ehi).mk' l)), ehi, rfl, rfl, rfl, q⟩
    | some u =>
      refine iteF ⟨_, rfl, _, rfl, a, _, _, _, rfl, rfl, hsa, rfl, _, _, rfl, ⟨ea, elo, ehi⟩, u, ⟨b, rfl, hsb⟩, rfl, ?_⟩
      exact ⟨_, rfl, a, _, _, _, rfl, rfl, hsa, rfl, _, rfl, b, _, _, _, rfl, rfl, hsb, rfl, _, _, rfl, rfl, _, rfl, _, rfl, _, _, _, rfl, _, (some ((Deed.mk ea elo ehi).mk' l)), some ((Deed.mk ea elo ehi).mk' u), rfl, rfl, rfl, q⟩
theorem sc_pass_stage : FnScope ["k", "stage", "asked", "firsts", "behind", "kept", "line", "box", "in_lines", "deeds", "out"] ["k", "stage", "asked", "firsts"] (defScope (top 41)) := ⟨rfl, rfl, rfl, by decide +kernel, rfl, by decide +kernel, by decide +kernel⟩
set_option maxHeartbeats 0 in
theorem ok_pass_stage {n : Nat} {f : Addr} {fd : FuncData} (F : Fun K "pass_stage" "pass_stage" (top 41) f fd) (B : Blt mg) (c_joined : Callee P w K mg base n "joined" ["one", "other"] (sp_joined K)) (c_switch_at : Callee P w K mg base n "switch_at" ["k", "stage", "line"] (sp_switch_at K)) (c_onward : Callee P w K mg base n "onward" ["k", "stage", "line", "side"] (sp_onward K)) (c_side_for : Callee P w K mg base n "side_for" ["k", "box"] (sp_side41 K)) (c_in_order : Callee P w K mg base n "in_order" ["k", "stage", "line", "firsts"] (sp_in_order K))    :
    FnOk P w K mg base CX0 (n + 1) f fd ["k", "stage", "asked", "firsts"] (sp_pass41 K) := by
  refine F.ok sc_pass_stage sp4_len (fun cdv A outer s H vs Q E hr h => ?_)
  obtain ⟨x, y, z, u, rfl, k, st, m, d, rows, ks, rfl, rfl, rfl, k4, s1, sk, m16, hd, hrw, hs, R, q⟩ := h
  refine ⟨_, (pss_cons (ps_set (i := 4) sc_pass_stage.nd rfl (Or.inl rfl) pe_dnewT) (pss_cons (ps_set (i := 5) sc_pass_stage.nd rfl (Or.inl rfl) pe_dnewT) (pss_cons (ps_for PassesOwn.never rfl (pi_dT (pv 2)) (pg_tup rfl (pgs_cons (pg_name (i := 6) sc_pass_stage.nd rfl (Or.inl rfl)) (pgs_cons (pg_name (i := 7) sc_pass_stage.nd rfl (Or.inr rfl)) pgs_nil))) (pss_cons (ps_set (i := 8) sc_pass_stage.nd rfl (Or.inl rfl) (pe_callC c_in_order hr rfl (pa_cons (pv 0) (pa_cons (pv 1) (pa_cons (pv 6) (pa_cons (pv 3) pa_nil)))))) (pss_cons (ps_compT (i := 9) sc_pass_stage.nd rfl rfl (CSc.of (N' := ["in_line", "asked", "box"]) (sub := [none, some 2, some 7]) (defScope (top 41)) ["k", "stage", "asked", "firsts", "behind", "kept", "line", "box", "in_lines", "deeds", "out"] rfl rfl (by decide +kernel) rfl) rfl (pi_tup (pv 8)) (fun _ _ _ _ _ _ => pg_name (i := 0) (show (["in_line", "asked", "box"] : List Str).Nodup by decide +kernel) rfl (Or.inl rfl)) (fun _ _ _ _ _ _ => (pifs_one (pt_cmp (pc_din (Room.u1F hr) (pe_tup (pa_cons (pv 0) (pa_cons (pv 2) pa_nil))) (pv 1))))) (fun _ _ _ _ _ _ => (pe_dget (Room.u1F hr) (pv 1) (pe_tup (pa_cons (pv 0) (pa_cons (pv 2) pa_nil))) (fun _ _ => rfl)))) (pss_cons (ps_set (i := 10) sc_pass_stage.nd rfl (Or.inl rfl) (pe_tup (pa_cons (pe_callC c_onward hr rfl (pa_cons (pv 0) (pa_cons (pv 1) (pa_cons (pv 6) (pa_cons (pe_callC c_side_for hr rfl (pa_cons (pv 0) (pa_cons (pv 7) pa_nil))) pa_nil))))) (pa_cons (pv 7) pa_nil)))) (pss_one (ps_if (pt_cmpR op_eq (pe_callB call_len_seq rfl B.len b_len (pa_cons (pv 9) pa_nil)) pe_int (nomark _)) (pss_cons (ps_dput (Room.u1F hr) (pv 5) (pe_tup (pa_cons (pe_callC c_switch_at hr rfl (pa_cons (pv 0) (pa_cons (pv 1) (pa_cons (pv 6) pa_nil)))) (pa_cons (pv 7) pa_nil))) (pe_ix ix_list (pv 9) pe_int (fun _ _ => rfl)) rfl) (pss_one (ps_dput (Room.u1F hr) (pv 4) (pv 10) (pe_callC c_joined hr rfl (pa_cons (pe_ix ix_list (pv 9) pe_int (fun _ _ => rfl)) (pa_cons (pe_ix ix_list (pv 9) pe_int (fun _ _ => rfl)) pa_nil))) rfl))) (pss_one (ps_dput (Room.u1F hr) (pv 4) (pv 10) (pe_ix ix_list (pv 9) pe_int (fun _ _ => rfl)) rfl)))))))) (pss_one (ps_ret (pe_tup (pa_cons (pv 4) (pa_cons (pv 5) pa_nil)))))))), ?_⟩
  have p16 := pow16 k4
  obtain ⟨kvs, hrd, tab, kl⟩ := hd
  have es : st = st - 1 + 1 := by omega
  have hdn : H d ≠ none := by rcases hrd with z | ⟨o, z⟩ <;> rw [z] <;> exact fun z => nomatch z
  refine c_asg (fun v H' => ∃ b0, v = .ref b0 ∧ H b0 = none ∧ H' = upd H b0 (.dT [])) (fun Kk hk => fun p hp => hk _ _ ⟨p, rfl, hp, rfl⟩) ?_
  rintro _ _ ⟨b0, rfl, hb0, rfl⟩
  have g1 := Grow.new (m := []) hb0 (.dT [])
  have eB1 := upd_same (H := H) (a := b0) (o := .dT [])
  generalize upd H b0 (.dT []) = H1 at g1 eB1 ⊢
  refine c_asg (fun v H' => ∃ k0, v = .ref k0 ∧ H1 k0 = none ∧ H' = upd H1 k0 (.dT [])) (fun Kk hk => fun p hp => hk _ _ ⟨p, rfl, hp, rfl⟩) ?_
  rintro _ _ ⟨k0, rfl, hk1, rfl⟩
  have g2 := Grow.new (m := []) hk1 (.dT [])
  have eK2 := upd_same (H := H1) (a := k0) (o := .dT [])
  have hk0 : H k0 = none := g1.free (by simp) hk1
  have bk0 : b0 ≠ k0 := fun z => by rw [z, hk1] at eB1; cases eB1
  have eB2 := g2.keep _ _ (by simp) eB1
  have g12 := g1.trans g2
  generalize upd H1 k0 (.dT []) = H2 at g2 g12 eK2 eB2 ⊢
  have nb : d ≠ b0 := fun z => hdn (z ▸ hb0)
  have nk : d ≠ k0 := fun z => hdn (z ▸ hk0)
  have hrd2 := Rd.growR g12 (.inl (by simp)) hrd
  refine ⟨_, rfl, d, kvs, rfl, hrd2, fun o H3 hd3 g3 same3 => ?_⟩
  have eB3 : H3 b0 = some (.dT []) := by rw [same3 b0 (Ne.symm nb)]; exact eB2
  have eK3 : H3 k0 = some (.dT []) := by rw [same3 k0 (Ne.symm nk)]; exact eK2
  have hrw3 := g3.rows (g12.rows hrw)
  have tab3 : TabR kvs (2 ^ k) m (lvR k rows ks (st - 1)) (DeedAt K H3) := tab.imp fun v x hv => g3.deed (g12.deed hv)
  refine for_dT (fun i σ H' => ∃ (e6 e7 e8 e9 e10 : Option V) (bk kk : List (List Key × V)), σ = [some (.int k), some (.int st), some (.ref d), some u, some (.ref b0), some (.ref k0), e6, e7, e8, e9, e10] ∧ Grow [b0, k0] H3 H' ∧ H' b0 = some (.dT bk) ∧ H' k0 = some (.dT kk) ∧ Beh K H' k m rows ks st kvs i bk kk) ?_ ?_ ?_ ?_
  · exact ⟨_, _, _, _, _, [], [], rfl, Grow.refl _ _, eB3, eK3, Beh.nil⟩
  · rintro i σ H' _ ⟨e6, e7, e8, e9, e10, bk, kk, rfl, g, _⟩
    exact g.frz _ _ _ hd3
  · rintro i p bb σ H4 hp hbb ⟨e6, e7, e8, e9, e10, bk, kk, rfl, g4, hB4, hK4, beh⟩
    obtain ⟨l, b, dd, ep, hl, hb, hlv, hdd⟩ := tab3.keys p (List.mem_of_getElem? hp)
    obtain ⟨pk, v⟩ := p
    cases (show pk = keyR l b from ep)
    have b16 : b < 16 := by omega
    have hi : i < kvs.length := (List.getElem?_eq_some_iff.mp hp).1
    refine ⟨bb, [.int l, .int b], rfl, SqT.of hbb, rfl, _, _, rfl, _, _, rfl, rfl, ?_⟩
    refine c_asg (fun v H' => NatsT K H' v [x0R k rows st l, x1R k rows st l] ∧ Grow [] H4 H') (fun Kk hk => ⟨_, rfl, _, rfl, _, rfl, _, rfl, _, _, _, _, rfl, k, st, l, rows, rfl, rfl, rfl, g4.rows hrw3, k4, s1, sk, hl, hs, fun y H' g hn => hk _ _ ⟨hn, g⟩⟩) ?_
    rintro _ H5 ⟨⟨ri, rfl, hri⟩, g5⟩
    have X := xF (rows := rows) k4 hs s1 sk hl
    have fz : ∀ H', Grow [] H4 H' → H' d = some (.frz o (.dT kvs)) := fun H' g => g.frz _ _ _ (g4.frz _ _ _ hd3)
    have fz5 := fz H5 g5
    refine c_asg (fun v H' => ∃ l9, v = .ref l9 ∧ H' l9 = some (.lst ((valV kvs (keyR (x0R k rows st l) b)).toList ++ (valV kvs (keyR (x1R k rows st l) b)).toList)) ∧ Grow [] H5 H') (fun Kk hk => ⟨_, rfl, ri, rfl, ⟨_, hri⟩, comp_tup (xs := natsV [x0R k rows st l, x1R k rows st l]) (fun n ys σ' H' => Grow [] H5 H' ∧ (∃ e, σ' = [e, some (.ref d), some (.int b)]) ∧ ys = (([x0R k rows st l, x1R k rows st l].take n).flatMap fun x => (valV kvs (keyR x b)).toList)) ⟨Grow.refl _ _, ⟨_, rfl⟩, rfl⟩ (fun n ys σ' H' _ z => z.1.sqT hri) ?_ ?_⟩) ?_
    · rintro n y ys σ' H' hy ⟨g, ⟨e, rfl⟩, rfl⟩
      have fin : ∀ x : Nat, y = .int x → (([x0R k rows st l, x1R k rows st l].take (n + 1)).flatMap fun x => (valV kvs (keyR x b)).toList) = (([x0R k rows st l, x1R k rows st l].take n).flatMap fun x => (valV kvs (keyR x b)).toList) ++ (valV kvs (keyR x b)).toList → (([x0R k rows st l, x1R k rows st l].take n).flatMap fun x => (valV kvs (keyR x b)).toList).length < sizeLine →
          tB (tDIn (tTup (tCons (tVar 0) (tCons (tVar 2) tNil))) (tVar 1)) [some y, some (.ref d), some (.int b)] H' (fun t H4 => if t = true then tDGet (tVar 1) (tTup (tCons (tVar 0) (tCons (tVar 2) tNil))) [some y, some (.ref d), some (.int b)] H4 fun y' H5' => (([x0R k rows st l, x1R k rows st l].take n).flatMap fun x => (valV kvs (keyR x b)).toList).length < sizeLine ∧ Grow [] H5 H5' ∧ (∃ e, [some y, some (V.ref d), some (V.int b)] = [e, some (.ref d), some (.int b)]) ∧ (([x0R k rows st l, x1R k rows st l].take n).flatMap fun x => (valV kvs (keyR x b)).toList) ++ [y'] = (([x0R k rows st l, x1R k rows st l].take (n + 1)).flatMap fun x => (valV kvs (keyR x b)).toList) else Grow [] H5 H4 ∧ (∃ e, [some y, some (V.ref d), some (V.int b)] = [e, some (.ref d), some (.int b)]) ∧ (([x0R k rows st l, x1R k rows st l].take n).flatMap fun x => (valV kvs (keyR x b)).toList) = (([x0R k rows st l, x1R k rows st l].take (n + 1)).flatMap fun x => (valV kvs (keyR x b)).toList)) := by
        rintro x rfl et hsz
        rw [et]
        refine ⟨_, rfl, _, rfl, szl rfl, fun t ht => ?_⟩
        have gt := Grow.new (m := []) ht (.tup [.int x, .int b])
        refine ⟨_, rfl, d, valV kvs (keyR x b), rfl, dget_fz (gt.frz _ _ _ (g.frz _ _ _ fz5)) upd_same, _, rfl, ?_⟩
        cases hv : valV kvs (keyR x b) with
        | none => exact iteF ⟨g.trans gt, ⟨_, rfl⟩, by rw [show (none : Option V).toList = [] from rfl, List.append_nil]⟩
        | some v =>
          refine iteT' rfl ⟨_, rfl, _, rfl, _, rfl, szl rfl, fun t2 ht2 => ?_⟩
          have gt2 := Grow.new (m := []) ht2 (.tup [.int x, .int b])
          have gx := dget_fz (l := x) (b := b) (gt2.frz _ _ _ (gt.frz _ _ _ (g.frz _ _ _ fz5))) (upd_same (H := upd H' t (.tup [.int x, .int b])) (a := t2) (o := .tup [.int x, .int b]))
          rw [hv] at gx
          exact ⟨d, v, rfl, gx, hsz, g.trans (gt.trans gt2), ⟨_, rfl⟩, rfl⟩
      have small : ∀ o : Option V, o.toList.length ≤ 1 := fun o => by cases o <;> simp
      match n, hy with
      | 0, hy => cases Option.some.inj hy; exact fin _ rfl (by simp [List.flatMap_cons]) (smallR (by simp))
      | 1, hy =>
        cases Option.some.inj hy
        refine fin _ rfl (by simp [List.flatMap_cons]) (smallR ?_)
        have := small (valV kvs (keyR (x0R k rows st l) b))
        simp [List.flatMap_cons]; omega
    · rintro ys σ' H' ⟨g, _, rfl⟩ l9 hl9
      refine hk _ _ ⟨l9, rfl, ?_, g.trans (Grow.new hl9 _)⟩
      rw [upd_same]
      simp [List.flatMap_cons, natsV]
    rintro _ H6 ⟨l9, rfl, h9, g6⟩
    have fz6 := g6.frz _ _ _ fz5
    have W := outF (b := b) k4 s1 sk hl
    refine c_asg (fun v H' => ∃ t, v = .ref t ∧ H' t = some (.tup [.int (outR k st l b : Nat), .int b]) ∧ Grow [] H6 H') (fun Kk hk => ⟨_, rfl, _, rfl, _, rfl, _, rfl, _, rfl, _, _, rfl, k, b, rfl, rfl, k4, b16, _, _, _, _, rfl, k, st, l, ((b % 2 ^ k : Nat) : Int), rfl, rfl, rfl, rfl, k4, sk, by omega, by omega, by omega, by have := side_lt (k := k) (b := b); omega, _, rfl, szl rfl, fun t ht => hk _ _ ⟨t, rfl, ?_, Grow.new ht _⟩⟩) ?_
    · rw [upd_same, W.eq]; rfl
    rintro _ H7 ⟨t, rfl, ht, g7⟩
    have G7 := g5.trans (g6.trans g7)
    have h97 := g7.keep _ _ (by simp) h9
    have tab7 : TabR kvs (2 ^ k) m (lvR k rows ks (st - 1)) (DeedAt K H7) := tab3.imp fun v x hv => G7.deed (g4.deed hv)
    have B7 := beh.grow G7
    have hB7 := G7.keep _ _ (by simp) hB4
    have hK7 := G7.keep _ _ (by simp) hK4
    have G37 : Grow [b0, k0] H3 H7 := g4.trans G7.wk
    have lvo : lvR k rows ks st (outR k st l b) b = joinO (lvR k rows ks (st - 1) (x0R k rows st l) b) (lvR k rows ks (st - 1) (x1R k rows st l) b) := by
      have := lv_out (ks := ks) (b := b) k4 hs (s := st - 1) (by omega) hl
      rw [← es] at this; exact this
    have val0 := tab7.val X.lt0 hb
    have val1 := tab7.val X.lt1 hb
    have tb := beh.bl
    have tk := beh.kl
    have O := oneF k4 s1 sk hl
    have single : ∀ (w : V) (x : Deed), H7 l9 = some (.lst [w]) → lvR k rows ks st (outR k st l b) b = some x → DeedAt K H7 w x → kpR k rows ks st l b = none → ∃ (e6 e7 e8 e9 e10 : Option V) (bk' kk' : List (List Key × V)), [some (V.int k), some (.int st), some (.ref d), some u, some (.ref b0), some (.ref k0), some (.int l), some (.int b), some (.ref ri), some (.ref l9), some (.ref t)] = [some (.int k), some (.int st), some (.ref d), some u, some (.ref b0), some (.ref k0), e6, e7, e8, e9, e10] ∧ Grow [b0, k0] H3 (upd H7 b0 (.dT (putK bk (keyR (outR k st l b) b) w))) ∧ upd H7 b0 (.dT (putK bk (keyR (outR k st l b) b) w)) b0 = some (.dT bk') ∧ upd H7 b0 (.dT (putK bk (keyR (outR k st l b) b) w)) k0 = some (.dT kk') ∧ Beh K (upd H7 b0 (.dT (putK bk (keyR (outR k st l b) b) w))) k m rows ks st kvs (i + 1) bk' kk' := fun w x _ hx hw hkp => by
      have gs : Grow [b0, k0] H7 (upd H7 b0 (.dT (putK bk (keyR (outR k st l b) b) w))) := Grow.setR hB7 (by simp)
      exact ⟨_, _, _, _, _, _, kk, rfl, G37.trans gs, upd_same, by rw [upd_ne (Ne.symm bk0)]; exact hK7, (B7.one hp W.lt hb hx hw hkp).grow gs⟩
    cases h0 : lvR k rows ks (st - 1) (x0R k rows st l) b with
    | none =>
      rw [h0] at val0 lvo
      cases h1 : lvR k rows ks (st - 1) (x1R k rows st l) b with
      | none => rcases X.or with e | e
                · rw [← e, hlv] at h0; cases h0
                · rw [← e, hlv] at h1; cases h1
      | some d1 =>
        rw [h1] at val1 lvo
        obtain ⟨v1, e1, w1⟩ := val1
        have kn : kpR k rows ks st l b = none := by unfold kpR; rw [h0]
        rw [(show valV kvs (keyR (x0R k rows st l) b) = none from val0), e1] at h97
        refine ⟨_, rfl, l9, _, rfl, .inl (SqL.of h97), rfl, _, rfl, iteF' (decide_eq_false fun z => nomatch V.int.inj z) ?_⟩
        exact ⟨_, rfl, l9, _, 0, v1, rfl, rfl, SqL.of h97, rfl, _, rfl, _, rfl, b0, _, rfl, DPut.t (k := keyR (outR k st l b) b) hB7 ht (smallR (by omega)), single v1 d1 h97 lvo w1 kn⟩
    | some d0 =>
      rw [h0] at val0
      obtain ⟨v0, e0, w0⟩ := val0
      cases h1 : lvR k rows ks (st - 1) (x1R k rows st l) b with
      | none =>
        rw [h0, h1] at lvo
        rw [h1] at val1
        have kn : kpR k rows ks st l b = none := by unfold kpR; rw [h0, h1]
        rw [e0, (show valV kvs (keyR (x1R k rows st l) b) = none from val1)] at h97
        refine ⟨_, rfl, l9, _, rfl, .inl (SqL.of h97), rfl, _, rfl, iteF' (decide_eq_false fun z => nomatch V.int.inj z) ?_⟩
        exact ⟨_, rfl, l9, _, 0, v0, rfl, rfl, SqL.of h97, rfl, _, rfl, _, rfl, b0, _, rfl, DPut.t (k := keyR (outR k st l b) b) hB7 ht (smallR (by omega)), single v0 d0 h97 lvo w0 kn⟩
      | some d1 =>
        rw [h0, h1] at lvo
        rw [h1] at val1
        obtain ⟨v1, e1, w1⟩ := val1
        have kn : kpR k rows ks st l b = some d0 := by unfold kpR; rw [h0, h1]
        rw [e0, e1] at h97
        refine ⟨_, rfl, l9, _, rfl, .inl (SqL.of h97), rfl, _, rfl, iteT' (decide_eq_true rfl) ?_⟩
        refine ⟨_, rfl, l9, _, 0, v0, rfl, rfl, SqL.of h97, rfl, _, rfl, _, rfl, _, rfl, _, rfl, _, _, _, rfl, k, st, l, rfl, rfl, rfl, k4, sk, by omega, by omega, _, rfl, szl rfl, fun t2 ht2 => ?_⟩
        rw [O.sw, O.num]
        have g8 := Grow.new (m := []) ht2 (.tup [.int (nN k st l : Nat), .int b])
        have e8 := upd_same (H := H7) (a := t2) (o := .tup [.int (nN k st l : Nat), .int b])
        have hB8 := g8.keep _ _ (by simp) hB7
        have hK8 := g8.keep _ _ (by simp) hK7
        have h98 := g8.keep _ _ (by simp) h97
        have ht8 := g8.keep _ _ (by simp) ht
        have w0' := g8.deed w0
        have w1' := g8.deed w1
        have B8 := B7.grow g8
        generalize upd H7 t2 (.tup [.int (nN k st l : Nat), .int b]) = H8 at g8 e8 hB8 hK8 h98 ht8 w0' w1' B8 ⊢
        refine ⟨k0, _, rfl, DPut.t (k := keyR (nN k st l) b) hK8 e8 (smallR (by omega)), ?_⟩
        have g9 : Grow [b0, k0] H8 (upd H8 k0 (.dT (putK kk (keyR (nN k st l) b) v0))) := Grow.setR hK8 (by simp)
        have hB9 : upd H8 k0 (.dT (putK kk (keyR (nN k st l) b) v0)) b0 = some (.dT bk) := by rw [upd_ne bk0]; exact hB8
        have hK9 := upd_same (H := H8) (a := k0) (o := .dT (putK kk (keyR (nN k st l) b) v0))
        have n9 : l9 ≠ k0 := ne_of h98 hK8 (fun z => nomatch z)
        have nt9 : t ≠ k0 := ne_of ht8 hK8 (fun z => nomatch z)
        have h99 : upd H8 k0 (.dT (putK kk (keyR (nN k st l) b) v0)) l9 = some (.lst [v0, v1]) := by rw [upd_ne n9]; exact h98
        have ht9 : upd H8 k0 (.dT (putK kk (keyR (nN k st l) b) v0)) t = some (.tup [.int (outR k st l b : Nat), .int b]) := by rw [upd_ne nt9]; exact ht8
        generalize upd H8 k0 (.dT (putK kk (keyR (nN k st l) b) v0)) = H9 at g9 hB9 hK9 h99 ht9 ⊢
        refine ⟨_, rfl, l9, _, 0, v0, rfl, rfl, SqL.of h99, rfl, _, rfl, l9, _, 1, v1, rfl, rfl, SqL.of h99, rfl, _, _, rfl, d0, d1, g9.deed w0', g9.deed w1', fun t3 ht3 => ?_⟩
        have ga := Grow.new (m := []) ht3 (.tup (joinD d0 d1).vs)
        have hBa := ga.keep _ _ (by simp) hB9
        have hKa := ga.keep _ _ (by simp) hK9
        have hta := ga.keep _ _ (by simp) ht9
        have wj : DeedAt K (upd H9 t3 (.tup (joinD d0 d1).vs)) (.ref t3) (joinD d0 d1) := ⟨t3, rfl, SqT.of upd_same⟩
        have Ga : Grow [b0, k0] H3 (upd H9 t3 (.tup (joinD d0 d1).vs)) := G37.trans (g8.wk.trans (g9.trans ga.wk))
        have Ba := (B8.grow g9).grow ga
        have wa := ga.deed (g9.deed w0')
        generalize upd H9 t3 (.tup (joinD d0 d1).vs) = Ha at ga hBa hKa hta wj Ga Ba wa ⊢
        refine ⟨_, rfl, _, rfl, b0, _, rfl, DPut.t (k := keyR (outR k st l b) b) hBa hta (smallR (by omega)), ?_⟩
        have gs : Grow [b0, k0] Ha (upd Ha b0 (.dT (putK bk (keyR (outR k st l b) b) (.ref t3)))) := Grow.setR hBa (by simp)
        exact ⟨_, _, _, _, _, _, _, rfl, Ga.trans gs, upd_same, by rw [upd_ne (Ne.symm bk0)]; exact hKa, (Ba.two hp hl W.lt hb lvo wj kn wa).grow gs⟩
  · rintro σ H4 ⟨e6, e7, e8, e9, e10, bk, kk, rfl, g4, hB4, hK4, beh⟩
    have tab4 : TabR kvs (2 ^ k) m (lvR k rows ks (st - 1)) (DeedAt K H4) := tab3.imp fun v x hv => g4.deed hv
    obtain ⟨L1, L2⟩ := beh.done k4 hs s1 sk tab4 kl hB4 hK4
    refine ⟨_, rfl, _, rfl, szl rfl, fun r hr' => ?_⟩
    have g5 := Grow.new (m := []) hr' (.tup [.ref b0, .ref k0])
    have G : Grow [d] H (upd H4 r (.tup [.ref b0, .ref k0])) := by
      have a1 : Grow [d, b0, k0] H H3 := (g12.wk.trans (g3.mono (by simp)))
      have a2 : Grow [d, b0, k0] H3 H4 := g4.mono (by simp)
      refine (a1.trans (a2.trans g5.wk)).less fun b hb => ?_
      simp only [List.mem_cons, List.mem_nil_iff, or_false] at hb
      rcases hb with rfl | rfl | rfl
      · exact .inl (by simp)
      · exact .inr hb0
      · exact .inr hk0
    exact q r b0 k0 _ G hb0 hk0 bk0 (SqT.of upd_same) (L1.grow g5 (by simp)) (L2.grow g5 (by simp)) ⟨kvs, .inr ⟨o, g5.frz _ _ _ (g4.frz _ _ _ hd3)⟩, tab4.imp fun v x hv => g5.deed hv, kl⟩
theorem sc_pass_net : FnScope ["k", "asks", "firsts", "levels", "stages", "stage", "behind", "kept"] ["k", "asks", "firsts"] (defScope (top 42)) := ⟨rfl, rfl, rfl, by decide +kernel, rfl, by decide +kernel, by decide +kernel⟩
set_option maxHeartbeats 0 in
theorem ok_pass_net {n : Nat} {f : Addr} {fd : FuncData} (F : Fun K "pass_net" "pass_net" (top 42) f fd) (B : Blt mg) (c_pass_stage : Callee P w K mg base n "pass_stage" ["k", "stage", "asked", "firsts"] (sp_pass41 K))    :
    FnOk P w K mg base CX0 (n + 1) f fd ["k", "asks", "firsts"] (sp_pnet41 K) := by
  refine F.ok sc_pass_net sp3_len (fun cdv A outer s H vs Q E hr h => ?_)
  obtain ⟨x, y, z, rfl, k, m, rows, ks, rfl, k4, m16, k16, hks, hrw, hs, R, q⟩ := h
  refine ⟨_, (pss_cons (ps_set (i := 3) sc_pass_net.nd rfl (Or.inl rfl) (pe_lst (pa_cons (pe_compE (Room.u1F hr) (CSc.of (N' := ["hand", "box", "deed"]) (sub := [none, none, none]) (defScope (top 42)) ["k", "asks", "firsts", "levels", "stages", "stage", "behind", "kept"] rfl rfl (by decide +kernel) rfl) rfl (pi_tup (pv 1)) (fun _ _ _ _ _ _ => pg_tupK (K := K) 3 rfl rfl (pgs_cons (pg_name (i := 0) (show (["hand", "box", "deed"] : List Str).Nodup by decide +kernel) rfl (Or.inl rfl) (Or.inr rfl)) (pgs_cons (pg_name (i := 1) (show (["hand", "box", "deed"] : List Str).Nodup by decide +kernel) rfl (Or.inl rfl) (Or.inr rfl)) (pgs_cons (pg_name (i := 2) (show (["hand", "box", "deed"] : List Str).Nodup by decide +kernel) rfl (Or.inl rfl) (Or.inr rfl)) pgs_nil))) rfl rfl) (fun _ _ _ _ _ _ => pifs_nil) (fun _ _ _ _ _ _ => (pe_tup (pa_cons (pv 0) (pa_cons (pv 1) pa_nil)))) (fun _ _ _ _ _ _ => (pv 2))) pa_nil))) (pss_cons (ps_set (i := 4) sc_pass_net.nd rfl (Or.inl rfl) (pe_lst pa_nil)) (pss_cons (ps_for PassesOwn.never rfl (pi_range2 rfl B.range (pa_cons pe_int (pa_cons (pe_op op_add (pv 0) pe_int) pa_nil))) (pg_name (i := 5) sc_pass_net.nd rfl (Or.inl rfl)) (pss_cons (ps_asg (pe_callC c_pass_stage hr rfl (pa_cons (pv 0) (pa_cons (pv 5) (pa_cons (pe_ix ix_list (pv 3) (pe_un un_neg pe_int) (fun _ _ => rfl)) (pa_cons (pv 2) pa_nil))))) (pg_tup rfl (pgs_cons (pg_name (i := 6) sc_pass_net.nd rfl (Or.inl rfl)) (pgs_cons (pg_name (i := 7) sc_pass_net.nd rfl (Or.inl rfl)) pgs_nil)))) (pss_cons (ps_expr (pe_bm PySem.F.plainAttrs_list PySem.F.slot_list_append PySem.F.type_list_append mt_append (pv 3) (pa_cons (pv 6) pa_nil))) (pss_one (ps_expr (pe_bm PySem.F.plainAttrs_list PySem.F.slot_list_append PySem.F.type_list_append mt_append (pv 4) (pa_cons (pv 7) pa_nil))))))) (pss_one (ps_ret (pe_tup (pa_cons (pv 3) (pa_cons (pv 4) pa_nil)))))))), ?_⟩
  have p16 := pow16 k4
  obtain ⟨ra, xs, rfl, hra, hxs⟩ := hks
  have xl := hxs.len
  refine c_asg (fun v H' => ∃ lL d0 vs, v = .ref lL ∧ H' lL = some (.lst [.ref d0]) ∧ H' d0 = some (.dT (lv0K ks vs)) ∧ vs.length = ks.length ∧ (∀ (i : Nat) (a : Ask) (v : V), ks[i]? = some a → vs[i]? = some v → DeedAt K H' v a.deed) ∧ Grow [] H H' ∧ H d0 = none ∧ H lL = none) (fun Kk hk => ⟨_, rfl, ra, rfl, ⟨_, hra⟩, comp_tupE (xs := xs) (fun n kvs Hb σ' H' => Grow [] H H' ∧ Grow [] Hb H' ∧ (∃ e1 e2 e3, σ' = [e1, e2, e3]) ∧ n ≤ ks.length ∧ ∃ vs, kvs = lv0K (ks.take n) vs ∧ vs.length = n ∧ ∀ (i : Nat) (a : Ask) (v : V), ks[i]? = some a → vs[i]? = some v → DeedAt K H' v a.deed) ⟨Grow.refl _ _, Grow.refl _ _, ⟨_, _, _, rfl⟩, Nat.zero_le _, [], rfl, rfl, fun i a v _ h => by cases h⟩ (fun n kvs Hb σ' H' z => z.1.sqT hra) ?_ ?_⟩) ?_
  · rintro n x kvs Hb σ' H' hx ⟨g, gb, ⟨e1, e2, e3, rfl⟩, hn, vs, rfl, vl, hv⟩
    obtain ⟨a, ha, r, rd, rfl, h1, h2⟩ := hxs.get hx
    have hn' := (List.getElem?_eq_some_iff.mp ha).1
    have am := List.mem_of_getElem? ha
    refine ⟨r, _, rfl, g.sqT h1, rfl, _, _, rfl, _, _, rfl, _, _, rfl, rfl, ?_⟩
    refine ⟨_, rfl, _, rfl, szl rfl, fun t ht => ?_⟩
    have gt := Grow.new (m := []) ht (.tup [.int a.hand, .int a.box])
    refine ⟨_, rfl, smallR (by rw [lv0_len]; omega), t, keyR a.hand.toNat a.box.toNat, rfl, ?_, (fun c xs e => gt.tup _ _ (gb.tup _ _ e)), g.trans gt, Grow.refl _ _, ⟨_, _, _, rfl⟩, hn', vs ++ [.ref rd], lv0_put R ha vl, by rw [List.length_append]; show vs.length + 1 = _; omega, ?_⟩
    · rw [key_of41 (R.hand a am).1 (R.box a am).1]; exact upd_same
    · intro i a' v' hi hv'
      by_cases c : i < vs.length
      · rw [List.getElem?_append_left c] at hv'
        exact gt.deed (hv i a' v' hi hv')
      · have e : i = n := by have := (List.getElem?_eq_some_iff.mp hv').1; rw [List.length_append] at this; have : i < vs.length + 1 := this; omega
        rw [e, ha] at hi
        rw [e, ← vl, List.getElem?_concat_length] at hv'
        cases Option.some.inj hi
        cases Option.some.inj hv'
        exact ⟨rd, rfl, gt.sqT (g.sqT h2)⟩
  · rintro kvs Hb σ' H' ⟨g, gb, _, _, vs, rfl, vl, hv⟩
    refine ⟨fun b xs e => gb.tup _ _ e, fun d0 hd0 => ⟨szl rfl, fun lL hlL => ?_⟩⟩
    have g1 := Grow.new (m := []) hd0 (.dT (lv0K (ks.take xs.length) vs))
    have g2 := Grow.new (m := []) hlL (.lst [.ref d0])
    rw [xl, List.take_length] at g1 g2 hlL ⊢
    exact hk _ _ ⟨lL, d0, vs, rfl, upd_same, g2.keep _ _ (by simp) upd_same, by omega, fun i a v h1 h2 => g2.deed (g1.deed (hv i a v h1 h2)), g.trans (g1.trans g2), g.free (by simp) hd0, g.free (by simp) (g1.free (by simp) hlL)⟩
  rintro _ H1 ⟨lL, d0, vs, rfl, hL1, hd1, vl, hv1, g1, hd0, hlL⟩
  refine c_asg (fun v H' => ∃ lS, v = .ref lS ∧ H1 lS = none ∧ H' = upd H1 lS (.lst [])) (fun Kk hk => ⟨szl rfl, fun lS hlS => hk _ _ ⟨lS, rfl, hlS, rfl⟩⟩) ?_
  rintro _ _ ⟨lS, rfl, hlS, rfl⟩
  have g2 := Grow.new (m := []) hlS (.lst [])
  have hS2 := upd_same (H := H1) (a := lS) (o := .lst [])
  have hL2 := g2.keep _ _ (by simp) hL1
  have hd2 := g2.keep _ _ (by simp) hd1
  have nLS : lL ≠ lS := fun z => by rw [z, hlS] at hL1; cases hL1
  have hlS0 : H lS = none := g1.free (by simp) hlS
  have G2 := g1.trans g2
  have N2 : NetR K (upd H1 lS (.lst [])) k m rows ks [d0] [] := by
    refine ⟨fun s d h => ?_, fun s d h => (by cases h), by simp⟩
    match s, h with
    | 0, h =>
      cases Option.some.inj h
      exact ⟨_, .inl hd2, lv0_tab R vl fun i a v h1 h2 => g2.deed (hv1 i a v h1 h2), by rw [lv0_len]; omega⟩
  generalize upd H1 lS (.lst []) = H2 at g2 hS2 hL2 hd2 G2 N2 ⊢
  refine ⟨_, rfl, _, _, rfl, rfl, _, _, rfl, ⟨by omega, by omega, by omega, by omega⟩, for_range (fun i σ H' => ∃ (ds kps : List Addr) (e5 e6 e7 : Option V), σ = [some (.int k), some (.ref ra), some z, some (.ref lL), some (.ref lS), e5, e6, e7] ∧ ds.length = i + 1 ∧ kps.length = i ∧ H' lL = some (.lst (ds.map V.ref)) ∧ H' lS = some (.lst (kps.map V.ref)) ∧ NetR K H' k m rows ks ds kps ∧ (∀ d ∈ ds ++ kps, H d = none) ∧ Grow [] H H') ?_ ?_ ?_⟩
  · exact ⟨[d0], [], _, _, _, rfl, rfl, rfl, hL2, hS2, N2, (fun d hd => by rw [show d = d0 from by simpa using hd]; exact hd0), G2⟩
  · rintro i σ H3 hi ⟨ds, kps, e5, e6, e7, rfl, dl, kpl, hL3, hS3, N3, fr3, G3⟩
    have hik : i + 1 ≤ k := by omega
    obtain ⟨ds0, d, rfl⟩ := snoc_ofA (xs := ds) (fun z => by rw [z] at dl; cases dl)
    have dl0 : ds0.length = i := by rw [List.length_append] at dl; have : ds0.length + 1 = i + 1 := dl; omega
    have hLd : LvAt K H3 k m rows ks i d := N3.lv i d (by rw [← dl0, List.getElem?_concat_length])
    have last : atI ((ds0 ++ [d]).map V.ref) (-1) = some (.ref d) := lastR
    have nL : ∀ e ∈ (ds0 ++ [d]) ++ kps, e ≠ lL ∧ e ≠ lS := fun e he => by
      obtain ⟨kv, hk⟩ := N3.isD he
      exact ⟨Rd.ne_lst hk hL3, Rd.ne_lst hk hS3⟩
    have nLd := nL d (by simp)
    refine ⟨_, rfl, _, rfl, _, rfl, _, rfl, lL, _, _, _, rfl, rfl, SqL.of hL3, last, _, rfl, _, _, _, _, rfl, k, i + 1, m, d, rows, ks, rfl, congrArg V.int (by omega), rfl, k4, by omega, hik, m16, hLd, G3.rows hrw, hs, R, fun r b' kp H4 g4 hb' hkp nbk s4 L4 K4 L4' => ?_⟩
    refine ⟨r, [.ref b', .ref kp], rfl, s4, rfl, _, _, rfl, _, _, rfl, rfl, ?_⟩
    have hL4 := g4.keep _ _ (by simpa using Ne.symm nLd.1) hL3
    have hS4 := g4.keep _ _ (by simpa using Ne.symm nLd.2) hS3
    have nb : ∀ e ∈ (ds0 ++ [d]) ++ kps, e ≠ b' ∧ e ≠ kp := fun e he => by
      obtain ⟨kv, hk⟩ := N3.isD he
      exact ⟨fun z => Rd.ne_none hk (z ▸ hb'), fun z => Rd.ne_none hk (z ▸ hkp)⟩
    have ndd : ∀ e ∈ ds0 ++ kps, e ≠ d := fun e he z => by
      have nd := N3.nd
      rw [List.append_assoc] at nd
      rcases List.mem_append.mp he with h | h
      · exact (List.nodup_append.mp nd).2.2 e h d (by simp) z
      · have := (List.nodup_append.mp nd).2.1
        rw [List.singleton_append, List.nodup_cons] at this
        exact this.1 (z ▸ h)
    have N4 : NetR K H4 k m rows ks (ds0 ++ [d] ++ [b']) (kps ++ [kp]) := by
      refine ⟨fun s e h => ?_, fun s e h => ?_, ?_⟩
      · by_cases c : s < (ds0 ++ [d]).length
        · rw [List.getElem?_append_left c] at h
          by_cases c2 : s < ds0.length
          · rw [List.getElem?_append_left c2] at h
            exact (N3.lv s e (by rw [List.getElem?_append_left c2]; exact h)).grow g4 (by simpa using ndd e (List.mem_append_left _ (List.mem_of_getElem? h)))
          · have es : s = ds0.length := by rw [List.length_append] at c; have : s < ds0.length + 1 := c; omega
            rw [es, List.getElem?_concat_length] at h
            cases Option.some.inj h
            rw [es, dl0]; exact L4'
        · have es : s = (ds0 ++ [d]).length := by have := (List.getElem?_eq_some_iff.mp h).1; rw [List.length_append (bs := [b'])] at this; have : s < (ds0 ++ [d]).length + 1 := this; omega
          rw [es, List.getElem?_concat_length] at h
          cases Option.some.inj h
          rw [es, dl]; exact L4
      · by_cases c : s < kps.length
        · rw [List.getElem?_append_left c] at h
          exact (N3.kp s e h).grow g4 (by simpa using ndd e (List.mem_append_right _ (List.mem_of_getElem? h)))
        · have es : s = kps.length := by have := (List.getElem?_eq_some_iff.mp h).1; rw [List.length_append] at this; have : s < kps.length + 1 := this; omega
          rw [es, List.getElem?_concat_length] at h
          cases Option.some.inj h
          rw [es, kpl]; exact K4
      · exact nodup_four N3.nd (fun e he => (nb e he).1) (fun e he => (nb e he).2) nbk
    have fr4 : ∀ e ∈ (ds0 ++ [d] ++ [b']) ++ (kps ++ [kp]), H e = none := fun e he => by
      rcases List.mem_append.mp he with h | h
      · rcases List.mem_append.mp h with h | h
        · exact fr3 e (List.mem_append_left _ h)
        · rw [List.mem_singleton.mp h]; exact G3.free (by simp) hb'
      · rcases List.mem_append.mp h with h | h
        · exact fr3 e (List.mem_append_right _ h)
        · rw [List.mem_singleton.mp h]; exact G3.free (by simp) hkp
    have G4 : Grow [] H H4 := (G3.wk.trans g4).fresh fun b hb => by rw [List.mem_singleton.mp hb]; exact fr3 d (by simp)
    have nL4 : ∀ e ∈ (ds0 ++ [d] ++ [b']) ++ (kps ++ [kp]), e ∉ [lL] := fun e he z => by
      obtain ⟨kv, hk⟩ := N4.isD he
      exact Rd.ne_lst hk hL4 (by simpa using z)
    have nS4 : ∀ e ∈ (ds0 ++ [d] ++ [b']) ++ (kps ++ [kp]), e ∉ [lS] := fun e he z => by
      obtain ⟨kv, hk⟩ := N4.isD he
      exact Rd.ne_lst hk hS4 (by simpa using z)
    refine ⟨_, rfl, .inl ⟨rfl, _, SqL.of hL4⟩, _, rfl, lL, _, _, rfl, rfl, hL4, smallR (by rw [List.length_map]; omega), ?_⟩
    have g5 : Grow [lL] H4 (upd H4 lL (.lst ((ds0 ++ [d]).map V.ref ++ [.ref b']))) := Grow.set hL4 (by simp) _
    have hL5 := upd_same (H := H4) (a := lL) (o := .lst ((ds0 ++ [d]).map V.ref ++ [.ref b']))
    have hS5 : upd H4 lL (.lst ((ds0 ++ [d]).map V.ref ++ [.ref b'])) lS = some (.lst (kps.map V.ref)) := by rw [upd_ne (Ne.symm nLS)]; exact hS4
    have N5 := N4.grow g5 nL4
    have G5 : Grow [] H (upd H4 lL (.lst ((ds0 ++ [d]).map V.ref ++ [.ref b']))) := (G4.wk.trans g5).fresh fun b hb => by rw [List.mem_singleton.mp hb]; exact hlL
    generalize upd H4 lL (.lst ((ds0 ++ [d]).map V.ref ++ [.ref b'])) = H5 at g5 hL5 hS5 N5 G5 ⊢
    refine ⟨_, rfl, .inl ⟨rfl, _, SqL.of hS5⟩, _, rfl, lS, _, _, rfl, rfl, hS5, smallR (by rw [List.length_map]; omega), ?_⟩
    have g6 : Grow [lS] H5 (upd H5 lS (.lst (kps.map V.ref ++ [.ref kp]))) := Grow.set hS5 (by simp) _
    refine ⟨ds0 ++ [d] ++ [b'], kps ++ [kp], _, _, _, rfl, by rw [List.length_append, dl]; rfl, by rw [List.length_append, kpl]; rfl, ?_, ?_, N5.grow g6 nS4, fr4, (G5.wk.trans g6).fresh fun b hb => by rw [List.mem_singleton.mp hb]; exact hlS0⟩
    · rw [upd_ne nLS, hL5, List.map_append (l₂ := [b'])]; rfl
    · rw [upd_same, List.map_append (l₂ := [kp])]; rfl
  · rintro σ H3 ⟨ds, kps, e5, e6, e7, rfl, dl, kpl, hL3, hS3, N3, fr3, G3⟩
    have ek : ((k : Int) + 1 - 1).toNat = k := by omega
    rw [ek] at dl kpl
    refine ⟨_, rfl, _, rfl, szl rfl, fun r hr' => ?_⟩
    have g5 := Grow.new (m := []) hr' (.tup [.ref lL, .ref lS])
    exact q r lL lS ds kps _ (G3.trans g5) (SqT.of upd_same) (g5.keep _ _ (by simp) hL3) (g5.keep _ _ (by simp) hS3) dl kpl (N3.grow g5 (by simp)) fr3
theorem sc_is_whole : FnScope ["thing"] ["thing"] (defScope (top 8)) := ⟨rfl, rfl, rfl, by decide +kernel, rfl, by decide +kernel, by decide +kernel⟩
set_option maxHeartbeats 0 in
theorem ok_is_whole {n : Nat} {f : Addr} {fd : FuncData} (F : Fun K "is_whole" "is_whole" (top 8) f fd) (B : Blt mg)     :
    FnOk P w K mg base CX0 (n + 1) f fd ["thing"] (sp_is_whole K) := by
  refine F.ok sc_is_whole sp1_len (fun cdv A outer s H vs Q E hr h => ?_)
  obtain ⟨x, rfl, ⟨T, ty⟩, q⟩ := h
  refine ⟨_, (pss_one (ps_ret (pe_and (pe_callB call_isi rfl B.isinstance b_isinstance (pa_cons (pv 0) (pa_cons (pe_tyn rfl B.int b_int) pa_nil))) (pe_one (pe_not (pe_callB call_isi rfl B.isinstance b_isinstance (pa_cons (pv 0) (pa_cons (pe_tyn rfl B.bool b_bool) pa_nil)))))))), ?_⟩
  cases x with
  | non => cases (show T = "NoneType" from ty); exact ⟨_, rfl, _, _, _, false, rfl, rfl, rfl, _, rfl, iteF q⟩
  | bl y => cases (show T = "bool" from ty); exact ⟨_, rfl, _, _, _, true, rfl, rfl, rfl, _, rfl, iteT ⟨_, rfl, _, _, _, true, rfl, rfl, rfl, _, rfl, q⟩⟩
  | int i => cases (show T = "int" from ty); exact ⟨_, rfl, _, _, _, true, rfl, rfl, rfl, _, rfl, iteT ⟨_, rfl, _, _, _, false, rfl, rfl, rfl, _, rfl, q⟩⟩
  | str y => cases (show T = "str" from ty); exact ⟨_, rfl, _, _, _, false, rfl, rfl, rfl, _, rfl, iteF q⟩
  | byt y => exact ty.elim
  | flt y => exact ty.elim
  | ty y => exact ty.elim
  | ref a =>
    rcases ty with ⟨rfl, xs, hq⟩ | ⟨rfl, xs, hq⟩ | ⟨rfl, kvs, hq⟩
    · exact ⟨_, rfl, _, _, _, false, rfl, .inl ⟨rfl, xs, hq⟩, rfl, _, rfl, iteF q⟩
    · exact ⟨_, rfl, _, _, _, false, rfl, .inr (.inl ⟨rfl, xs, hq⟩), rfl, _, rfl, iteF q⟩
    · exact ⟨_, rfl, _, _, _, false, rfl, .inr (.inr ⟨rfl, kvs, hq⟩), rfl, _, rfl, iteF q⟩
theorem sc_is_within : FnScope ["thing", "least", "greatest"] ["thing", "least", "greatest"] (defScope (top 9)) := ⟨rfl, rfl, rfl, by decide +kernel, rfl, by decide +kernel, by decide +kernel⟩
set_option maxHeartbeats 0 in
theorem ok_is_within {n : Nat} {f : Addr} {fd : FuncData} (F : Fun K "is_within" "is_within" (top 9) f fd) (B : Blt mg) (c_is_whole : Callee P w K mg base n "is_whole" ["thing"] (sp_is_whole K))    :
    FnOk P w K mg base CX0 (n + 1) f fd ["thing", "least", "greatest"] (sp_is_within K) := by
  refine F.ok sc_is_within sp3_len (fun cdv A outer s H vs Q E hr h => ?_)
  obtain ⟨x, y, z, rfl, i, l, u, rfl, rfl, rfl, q⟩ := h
  refine ⟨_, (pss_one (ps_ret (pe_and (pe_callC c_is_whole hr rfl (pa_cons (pv 0) pa_nil)) (pe_one (pe_chain op_le op_le (pv 1) (pv 0) (pv 2)))))), ?_⟩
  refine ⟨_, rfl, _, rfl, kn_int, _, rfl, iteT ⟨_, rfl, _, rfl, _, _, rfl, rfl, _, rfl, ?_⟩⟩
  by_cases c : l ≤ i
  · refine iteT' (decide_eq_true c) ⟨_, rfl, _, _, rfl, rfl, ?_⟩
    rw [decide_eq_true c] at q; exact q
  · refine iteF' (decide_eq_false c) ?_
    rw [decide_eq_false c] at q; exact q
theorem sc_switches_in_a_stage : FnScope ["k"] ["k"] (defScope (top 33)) := ⟨rfl, rfl, rfl, by decide +kernel, rfl, by decide +kernel, by decide +kernel⟩
set_option maxHeartbeats 0 in
theorem ok_switches_in_a_stage {n : Nat} {f : Addr} {fd : FuncData} (F : Fun K "switches_in_a_stage" "switches_in_a_stage" (top 33) f fd) (B : Blt mg)     :
    FnOk P w K mg base CX0 (n + 1) f fd ["k"] (sp_switches_in K) := by
  refine F.ok sc_switches_in_a_stage sp1_len (fun cdv A outer s H vs Q E hr h => ?_)
  obtain ⟨x, rfl, k, rfl, k4, q⟩ := h
  refine ⟨_, (pss_one (ps_ret (pe_op op_shr (pe_op op_shl pe_int (pv 0)) pe_int))), ?_⟩
  refine ⟨_, rfl, _, _, rfl, rfl, shlOne k4, _, _, rfl, rfl, (by show (0 : Int) ≤ 1; decide), ?_⟩
  show Q (V.int (1 * 2 ^ ((k : Int)).toNat / 2 ^ (1 : Int).toNat)) H
  rw [half_sh k4]
  exact q
theorem sc_are_marks : FnScope ["k", "thing"] ["k", "thing"] (defScope (top 34)) := ⟨rfl, rfl, rfl, by decide +kernel, rfl, by decide +kernel, by decide +kernel⟩
set_option maxHeartbeats 0 in
theorem ok_are_marks {n : Nat} {f : Addr} {fd : FuncData} (F : Fun K "are_marks" "are_marks" (top 34) f fd) (B : Blt mg) (c_is_within : Callee P w K mg base n "is_within" ["thing", "least", "greatest"] (sp_is_within K)) (c_switches_in_a_stage : Callee P w K mg base n "switches_in_a_stage" ["k"] (sp_switches_in K))    :
    FnOk P w K mg base CX0 (n + 1) f fd ["k", "thing"] (sp_are_marks K) := by
  refine F.ok sc_are_marks sp2_len (fun cdv A outer s H vs Q E hr h => ?_)
  obtain ⟨x, y, rfl, k, row, rfl, k4, ⟨r, rfl, hs⟩, hl, hb, q⟩ := h
  refine ⟨_, (pss_cons (ps_if (PW.pt (pw_or (pt_not (pt_val (pe_callB call_isi rfl B.isinstance b_isinstance (pa_cons (pv 1) (pa_cons (pe_tyn rfl B.tuple b_tuple) pa_nil))))) (pw_or1 (pt_cmpR op_ne (pe_callB call_len_seq rfl B.len b_len (pa_cons (pv 1) pa_nil)) (pe_callC c_switches_in_a_stage hr rfl (pa_cons (pv 0) pa_nil)) (nomark _))))) (pss_one (ps_ret pe_bl)) pss_nil) (pss_one (ps_ret (pe_callB (call_allB rfl) rfl B.all b_all (pa_cons (pe_compT (CSc.of (N' := ["mark"]) (sub := [none]) (defScope (top 34)) ["k", "thing"] rfl rfl (by decide +kernel) rfl) rfl (pi_tup (pv 1)) (fun _ _ _ _ _ _ => pg_name (i := 0) (show (["mark"] : List Str).Nodup by decide +kernel) rfl (Or.inl rfl)) (fun _ _ _ _ _ _ => pifs_nil) (fun _ _ _ _ _ _ => (pe_callC c_is_within hr rfl (pa_cons (pv 0) (pa_cons pe_int (pa_cons pe_int pa_nil)))))) pa_nil))))), ?_⟩
  refine ⟨_, rfl, _, _, _, true, rfl, .inl ⟨rfl, _, hs⟩, rfl, _, rfl, iteF ?_⟩
  have hl2 : (row.map V.int).length = 2 ^ k / 2 := by rw [List.length_map, hl]
  have p := pow16 k4
  refine ⟨_, rfl, r, _, rfl, .inr hs, _, rfl, _, rfl, k, rfl, k4, rfl, _, rfl, iteF' (by rw [hl2]; simp) ?_⟩
  refine ⟨_, rfl, r, rfl, ⟨_, hs⟩, comp_mapT (fun _ => V.bl true) hs (by omega) ?_ ?_⟩
  · intro v H2 R hv g kk
    obtain ⟨i, hi, rfl⟩ := List.mem_map.mp hv
    have := hb i hi
    refine ⟨_, rfl, _, _, _, rfl, _, _, _, rfl, rfl, rfl, ?_⟩
    rw [decide_eq_true (show (0 : Int) ≤ i by omega), decide_eq_true (show i ≤ (1 : Int) by omega)]
    exact kk _ (Grow.refl _ _)
  intro H2 p g hp
  refine ⟨p, row.map (fun _ => true), rfl, SqL.of (by rw [upd_same, List.map_map, List.map_map]; rfl), ?_⟩
  rw [all_trues]
  exact q _ (g.trans (Grow.new hp _))
theorem sc_need_net : FnScope ["thing"] ["thing"] (defScope (top 26)) := ⟨rfl, rfl, rfl, by decide +kernel, rfl, by decide +kernel, by decide +kernel⟩
set_option maxHeartbeats 0 in
theorem ok_need_net {n : Nat} {f : Addr} {fd : FuncData} (F : Fun K "need_net" "need_net" (top 26) f fd) (B : Blt mg) (c_is_within : Callee P w K mg base n "is_within" ["thing", "least", "greatest"] (sp_is_within K))  {t_DEEPEST : Tok} (g_DEEPEST : mg "DEEPEST" = some (.int 4 t_DEEPEST))  :
    FnOk P w K mg base CX0 (n + 1) f fd ["thing"] (sp_need_net K) := by
  refine F.ok sc_need_net sp1_len (fun cdv A outer s H vs Q E hr h => ?_)
  obtain ⟨x, rfl, k, rfl, k4, q⟩ := h
  refine ⟨_, (pss_one (ps_if (pt_not (pt_val (pe_callC c_is_within hr rfl (pa_cons (pv 0) (pa_cons pe_int (pa_cons (pe_glob rfl g_DEEPEST (show RelV (.int 4) (.int 4 t_DEEPEST) from ⟨_, rfl⟩)) pa_nil)))))) (pss_one ps_never) pss_nil)), ?_⟩
  exact ⟨_, rfl, _, _, _, rfl, _, _, _, rfl, rfl, rfl, _, rfl, iteF' (by rw [decide_eq_true (show (0 : Int) ≤ k by omega), decide_eq_true (show (k : Int) ≤ 4 by omega)]; rfl) q⟩
theorem sc_is_settings : FnScope ["k", "thing"] ["k", "thing"] (defScope (top 35)) := ⟨rfl, rfl, rfl, by decide +kernel, rfl, by decide +kernel, by decide +kernel⟩
set_option maxHeartbeats 0 in
theorem ok_is_settings {n : Nat} {f : Addr} {fd : FuncData} (F : Fun K "is_settings" "is_settings" (top 35) f fd) (B : Blt mg) (c_are_marks : Callee P w K mg base n "are_marks" ["k", "thing"] (sp_are_marks K)) (c_need_net : Callee P w K mg base n "need_net" ["thing"] (sp_need_net K))    :
    FnOk P w K mg base CX0 (n + 1) f fd ["k", "thing"] (sp_is_settings K) := by
  refine F.ok sc_is_settings sp2_len (fun cdv A outer s H vs Q E hr h => ?_)
  obtain ⟨x, y, rfl, k, rows, rfl, k4, ⟨r, xs, rfl, hs, hall⟩, hset, q⟩ := h
  refine ⟨_, (pss_cons (ps_expr (pe_callC c_need_net hr rfl (pa_cons (pv 0) pa_nil))) (pss_cons (ps_if (PW.pt (pw_or (pt_not (pt_val (pe_callB call_isi rfl B.isinstance b_isinstance (pa_cons (pv 1) (pa_cons (pe_tyn rfl B.tuple b_tuple) pa_nil))))) (pw_or1 (pt_cmpR op_ne (pe_callB call_len_seq rfl B.len b_len (pa_cons (pv 1) pa_nil)) (pv 0) (nomark _))))) (pss_one (ps_ret pe_bl)) pss_nil) (pss_one (ps_ret (pe_callB (call_allB rfl) rfl B.all b_all (pa_cons (pe_compT (CSc.of (N' := ["marks", "k"]) (sub := [none, some 0]) (defScope (top 35)) ["k", "thing"] rfl rfl (by decide +kernel) rfl) rfl (pi_tup (pv 1)) (fun _ _ _ _ _ _ => pg_name (i := 0) (show (["marks", "k"] : List Str).Nodup by decide +kernel) rfl (Or.inl rfl)) (fun _ _ _ _ _ _ => pifs_nil) (fun _ _ _ _ _ _ => (pe_callC c_are_marks hr rfl (pa_cons (pv 1) (pa_cons (pv 0) pa_nil))))) pa_nil)))))), ?_⟩
  have hxl : xs.length = k := hall.len.trans hset.1
  refine ⟨_, rfl, _, rfl, k, rfl, k4, ?_⟩
  refine ⟨_, rfl, _, _, _, true, rfl, .inl ⟨rfl, _, hs⟩, rfl, _, rfl, iteF ?_⟩
  refine ⟨_, rfl, r, _, rfl, .inr hs, _, rfl, rfl, _, rfl, iteF' (by rw [hxl]; simp) ?_⟩
  refine ⟨_, rfl, r, rfl, ⟨_, hs⟩, comp_mapT (fun _ => V.bl true) hs (by omega) ?_ ?_⟩
  · intro v H2 R hv g kk
    obtain ⟨i, hi⟩ := List.getElem?_of_mem hv
    obtain ⟨row, hrow, hb⟩ := hall.get hi
    have o := hset.2 row (List.mem_of_getElem? hrow)
    have hk1 : 1 ≤ k := by have := (List.getElem?_eq_some_iff.mp hi).1; omega
    exact ⟨_, rfl, _, rfl, _, _, rfl, k, row, rfl, k4, g.board hb, by rw [half_eq hk1]; exact o.1, o.2, fun H3 g3 => kk _ g3⟩
  intro H2 p g hp
  refine ⟨p, xs.map (fun _ => true), rfl, SqL.of (by rw [upd_same, List.map_map]; rfl), ?_⟩
  rw [all_trues]
  exact q _ (g.trans (Grow.new hp _))
theorem sc_need_settings : FnScope ["k", "thing"] ["k", "thing"] (defScope (top 36)) := ⟨rfl, rfl, rfl, by decide +kernel, rfl, by decide +kernel, by decide +kernel⟩
set_option maxHeartbeats 0 in
theorem ok_need_settings {n : Nat} {f : Addr} {fd : FuncData} (F : Fun K "need_settings" "need_settings" (top 36) f fd) (B : Blt mg) (c_is_settings : Callee P w K mg base n "is_settings" ["k", "thing"] (sp_is_settings K))    :
    FnOk P w K mg base CX0 (n + 1) f fd ["k", "thing"] (sp_need_settings K) := by
  refine F.ok sc_need_settings sp2_len (fun cdv A outer s H vs Q E hr h => ?_)
  obtain ⟨x, y, rfl, k, rows, rfl, k4, hR, hset, q⟩ := h
  refine ⟨_, (pss_one (ps_if (pt_not (pt_val (pe_callC c_is_settings hr rfl (pa_cons (pv 0) (pa_cons (pv 1) pa_nil))))) (pss_one ps_never) pss_nil)), ?_⟩
  exact ⟨_, rfl, _, rfl, _, _, rfl, k, rows, rfl, k4, hR, hset, fun H1 g1 => ⟨_, rfl, iteF (q _ g1)⟩⟩
theorem sc_is_line : FnScope ["k", "thing"] ["k", "thing"] (defScope (top 27)) := ⟨rfl, rfl, rfl, by decide +kernel, rfl, by decide +kernel, by decide +kernel⟩
set_option maxHeartbeats 0 in
theorem ok_is_line {n : Nat} {f : Addr} {fd : FuncData} (F : Fun K "is_line" "is_line" (top 27) f fd) (B : Blt mg) (c_is_within : Callee P w K mg base n "is_within" ["thing", "least", "greatest"] (sp_is_within K))    :
    FnOk P w K mg base CX0 (n + 1) f fd ["k", "thing"] (sp_is_line K) := by
  refine F.ok sc_is_line sp2_len (fun cdv A outer s H vs Q E hr h => ?_)
  obtain ⟨x, y, rfl, k, l, rfl, rfl, k4, hl, q⟩ := h
  refine ⟨_, (pss_one (ps_ret (pe_callC c_is_within hr rfl (pa_cons (pv 1) (pa_cons pe_int (pa_cons (pe_op op_sub (pe_op op_shl pe_int (pv 0)) pe_int) pa_nil)))))), ?_⟩
  refine ⟨_, rfl, _, rfl, _, _, rfl, rfl, shlOne k4, _, _, rfl, rfl, _, _, _, rfl, _, _, _, rfl, rfl, rfl, ?_⟩
  rw [decide_eq_true (show (0 : Int) ≤ l by omega), decide_eq_true (show (l : Int) ≤ 1 * 2 ^ ((k : Int)).toNat - 1 by rw [one_shl]; omega)]
  exact q
theorem sc_is_end : FnScope ["thing"] ["thing"] (defScope (top 11)) := ⟨rfl, rfl, rfl, by decide +kernel, rfl, by decide +kernel, by decide +kernel⟩
set_option maxHeartbeats 0 in
theorem ok_is_end {n : Nat} {f : Addr} {fd : FuncData} (F : Fun K "is_end" "is_end" (top 11) f fd) (B : Blt mg) (c_is_whole : Callee P w K mg base n "is_whole" ["thing"] (sp_is_whole K))    :
    FnOk P w K mg base CX0 (n + 1) f fd ["thing"] (sp_is_end K) := by
  refine F.ok sc_is_end sp1_len (fun cdv A outer s H vs Q E hr h => ?_)
  obtain ⟨x, rfl, kn, q⟩ := h
  refine ⟨_, (pss_one (ps_ret (pe_or (pe_cmp (pc_isN (pv 0))) (pe_one (pe_callC c_is_whole hr rfl (pa_cons (pv 0) pa_nil)))))), ?_⟩
  refine ⟨x, rfl, _, rfl, ?_⟩
  cases x with
  | non => exact iteT q
  | _ => exact iteF ⟨_, rfl, _, rfl, kn, q⟩
theorem sc_is_deed : FnScope ["thing", "add", "low", "high"] ["thing"] (defScope (top 12)) := ⟨rfl, rfl, rfl, by decide +kernel, rfl, by decide +kernel, by decide +kernel⟩
set_option maxHeartbeats 0 in
theorem ok_is_deed {n : Nat} {f : Addr} {fd : FuncData} (F : Fun K "is_deed" "is_deed" (top 12) f fd) (B : Blt mg) (c_is_end : Callee P w K mg base n "is_end" ["thing"] (sp_is_end K)) (c_is_whole : Callee P w K mg base n "is_whole" ["thing"] (sp_is_whole K))    :
    FnOk P w K mg base CX0 (n + 1) f fd ["thing"] (sp_is_deed K) := by
  refine F.ok sc_is_deed sp1_len (fun cdv A outer s H vs Q E hr h => ?_)
  obtain ⟨x, rfl, h⟩ := h
  refine ⟨_, (pss_cons (ps_if (PW.pt (pw_or (pt_not (pt_val (pe_callB call_isi rfl B.isinstance b_isinstance (pa_cons (pv 0) (pa_cons (pe_tyn rfl B.tuple b_tuple) pa_nil))))) (pw_or1 (pt_cmpR op_ne (pe_callB call_len_seq rfl B.len b_len (pa_cons (pv 0) pa_nil)) pe_int (nomark _))))) (pss_one (ps_ret pe_bl)) pss_nil) (pss_cons (ps_asg (pv 0) (pg_tup rfl (pgs_cons (pg_name (i := 1) sc_is_deed.nd rfl (Or.inl rfl)) (pgs_cons (pg_name (i := 2) sc_is_deed.nd rfl (Or.inl rfl)) (pgs_cons (pg_name (i := 3) sc_is_deed.nd rfl (Or.inl rfl)) pgs_nil))))) (pss_cons (ps_if (pt_not (PW.pt (pw_and (pt_val (pe_callC c_is_whole hr rfl (pa_cons (pv 1) pa_nil))) (pw_and (pt_val (pe_callC c_is_end hr rfl (pa_cons (pv 2) pa_nil))) (pw_and1 (pt_val (pe_callC c_is_end hr rfl (pa_cons (pv 3) pa_nil)))))))) (pss_one (ps_ret pe_bl)) pss_nil) (pss_cons (ps_if (PW.pt (pw_or (pt_cmp (pc_isN (pv 2))) (pw_or1 (pt_cmp (pc_isN (pv 3)))))) (pss_one (ps_ret pe_bl)) pss_nil) (pss_one (ps_ret (pe_or (pe_cmpR op_lt (pv 2) (pv 3) (nomark _)) (pe_one (pe_and (pe_cmpR op_eq (pv 2) (pv 3) (nomark _)) (pe_one (pe_cmpR op_eq (pv 1) pe_int (nomark _)))))))))))), ?_⟩
  rcases h with ⟨T, hT, ty, q⟩ | ⟨a, xs, rfl, hs, hk, q⟩
  · have kt : PySem.W.kitOne K (.type T) (.type "tuple") = some false := by
      cases x with
      | non => cases (show T = "NoneType" from ty); rfl
      | bl y => cases (show T = "bool" from ty); rfl
      | int i => cases (show T = "int" from ty); rfl
      | str y => cases (show T = "str" from ty); rfl
      | byt y => exact ty.elim
      | flt y => exact ty.elim
      | ty y => exact ty.elim
      | ref a =>
        rcases ty with ⟨rfl, xs, hq⟩ | ⟨rfl, xs, hq⟩ | ⟨rfl, kvs, hq⟩
        · exact absurd rfl hT
        · rfl
        · rfl
    exact ⟨_, rfl, _, _, _, false, rfl, ty, kt, _, rfl, iteT (iteT q)⟩
  · refine ⟨_, rfl, _, _, _, true, rfl, .inl ⟨rfl, xs, hs⟩, rfl, _, rfl, iteF ⟨_, rfl, a, xs, rfl, .inr hs, rfl, _, rfl, ?_⟩⟩
    by_cases hl : xs.length = 3
    · obtain ⟨y1, y2, y3, rfl⟩ := len3 hl
      refine iteF ⟨_, rfl, a, _, rfl, hs, rfl, _, _, rfl, _, _, rfl, _, _, rfl, rfl, ?_⟩
      refine ⟨_, rfl, _, rfl, hk y1 (by simp), _, rfl, ?_⟩
      refine ite2 (fun c1 => ?_) (fun c1 => ?_)
      · obtain ⟨i1, rfl⟩ := whole_int c1
        refine ⟨_, rfl, _, rfl, hk y2 (by simp), _, rfl, ?_⟩
        refine ite2 (fun c2 => ?_) (fun c2 => ?_)
        · obtain ⟨o2, rfl⟩ := end_ov c2
          refine ⟨_, rfl, _, rfl, hk y3 (by simp), _, rfl, ?_⟩
          by_cases c3 : endV y3 = true
          · obtain ⟨o3, rfl⟩ := end_ov c3
            rw [c3]
            refine iteF ?_
            cases o2 with
            | none => exact ⟨_, rfl, _, rfl, iteT (iteT (by cases o3 <;> exact q))⟩
            | some l =>
              cases o3 with
              | none => exact ⟨_, rfl, _, rfl, iteF ⟨_, rfl, _, rfl, iteT q⟩⟩
              | some u =>
                refine ⟨_, rfl, _, rfl, iteF ⟨_, rfl, _, rfl, iteF ?_⟩⟩
                refine ⟨_, rfl, _, rfl, _, _, rfl, rfl, _, rfl, ?_⟩
                have q' : Q (.bl (decide (l < u) || (decide (l = u) && decide (i1 = 0)))) H := q
                refine ite2 (fun c => ?_) (fun c => ?_)
                · rw [c] at q'; exact q'
                · rw [Bool.eq_false_iff.mpr c] at q'
                  refine ⟨_, rfl, _, rfl, rfl, _, rfl, ?_⟩
                  refine ite2 (fun d => ?_) (fun d => ?_)
                  · have d' : l = u := V.int.inj (of_decide_eq_true d)
                    refine ⟨_, rfl, rfl, ?_⟩
                    rw [decide_eq_true d'] at q'
                    have e : decide (V.int i1 = V.int 0) = decide (i1 = 0) := by simp
                    rw [e]; exact q'
                  · have d' : ¬ l = u := fun z => d (by rw [z]; simp)
                    rw [decide_eq_false d'] at q'
                    exact q'
          · have e : endV y3 = false := Bool.eq_false_iff.mpr c3
            rw [e]
            refine iteT ?_
            have z : tupDeed [V.int i1, ov o2, y3] = false := by show (true && (endV (ov o2) && (endV y3 && _))) = false; rw [e]; simp
            rw [z] at q; exact q
        · have e : endV y2 = false := Bool.eq_false_iff.mpr c2
          refine iteT ?_
          have z : tupDeed [V.int i1, y2, y3] = false := by show (true && (endV y2 && (endV y3 && _))) = false; rw [e]; simp
          rw [z] at q; exact q
      · have e : wholeV y1 = false := Bool.eq_false_iff.mpr c1
        refine iteT ?_
        have z : tupDeed [y1, y2, y3] = false := by show (wholeV y1 && (endV y2 && (endV y3 && _))) = false; rw [e]; simp
        rw [z] at q; exact q
    · have e : decide (V.int (xs.length : Int) = V.int 3) = false := decide_eq_false fun z => hl (by have := V.int.inj z; omega)
      rw [e]
      refine iteT ?_
      rw [tupDeed_len hl] at q; exact q
theorem sc_is_ask : FnScope ["board", "thing", "hand", "box", "deed"] ["board", "thing"] (defScope (top 21)) := ⟨rfl, rfl, rfl, by decide +kernel, rfl, by decide +kernel, by decide +kernel⟩
set_option maxHeartbeats 0 in
theorem ok_is_ask {n : Nat} {f : Addr} {fd : FuncData} (F : Fun K "is_ask" "is_ask" (top 21) f fd) (B : Blt mg) (c_is_deed : Callee P w K mg base n "is_deed" ["thing"] (sp_is_deed K)) (c_is_within : Callee P w K mg base n "is_within" ["thing", "least", "greatest"] (sp_is_within K))  {t_LAST_HAND : Tok} (g_LAST_HAND : mg "LAST_HAND" = some (.int 15 t_LAST_HAND))  :
    FnOk P w K mg base CX0 (n + 1) f fd ["board", "thing"] (sp_is_ask K) := by
  refine F.ok sc_is_ask sp2_len (fun cdv A outer s H vs Q E hr h => ?_)
  obtain ⟨x, y, rfl, b, k, ⟨rb, rfl, hb⟩, ⟨r, rd, rfl, h1, h2⟩, ⟨k1, k2, k3, k4, k5⟩, q⟩ := h
  refine ⟨_, (pss_cons (ps_if (PW.pt (pw_or (pt_not (pt_val (pe_callB call_isi rfl B.isinstance b_isinstance (pa_cons (pv 1) (pa_cons (pe_tyn rfl B.tuple b_tuple) pa_nil))))) (pw_or1 (pt_cmpR op_ne (pe_callB call_len_seq rfl B.len b_len (pa_cons (pv 1) pa_nil)) pe_int (nomark _))))) (pss_one (ps_ret pe_bl)) pss_nil) (pss_cons (ps_asg (pv 1) (pg_tup rfl (pgs_cons (pg_name (i := 2) sc_is_ask.nd rfl (Or.inl rfl)) (pgs_cons (pg_name (i := 3) sc_is_ask.nd rfl (Or.inl rfl)) (pgs_cons (pg_name (i := 4) sc_is_ask.nd rfl (Or.inl rfl)) pgs_nil))))) (pss_one (ps_ret (pe_and (pe_callC c_is_within hr rfl (pa_cons (pv 2) (pa_cons pe_int (pa_cons (pe_glob rfl g_LAST_HAND (show RelV (.int 15) (.int 15 t_LAST_HAND) from ⟨_, rfl⟩)) pa_nil)))) (pe_and (pe_callC c_is_within hr rfl (pa_cons (pv 3) (pa_cons pe_int (pa_cons (pe_op op_sub (pe_callB call_len_seq rfl B.len b_len (pa_cons (pv 0) pa_nil)) pe_int) pa_nil)))) (pe_one (pe_callC c_is_deed hr rfl (pa_cons (pv 4) pa_nil))))))))), ?_⟩
  have hl : (b.map V.int).length = b.length := List.length_map ..
  refine ⟨_, rfl, _, _, _, true, rfl, .inl ⟨rfl, _, h1⟩, rfl, _, rfl, iteF ⟨_, rfl, r, _, rfl, .inr h1, rfl, _, rfl, iteF ?_⟩⟩
  refine ⟨_, rfl, r, _, rfl, h1, rfl, _, _, rfl, _, _, rfl, _, _, rfl, rfl, ?_⟩
  refine ⟨_, rfl, _, _, _, rfl, _, _, _, rfl, rfl, rfl, _, rfl, iteT' (by rw [decide_eq_true k1, decide_eq_true k2]; rfl) ?_⟩
  refine ⟨_, rfl, _, rfl, rb, _, rfl, .inr hb, _, _, rfl, rfl, _, _, _, rfl, _, _, _, rfl, rfl, rfl, _, rfl, iteT' (by rw [decide_eq_true k3, decide_eq_true (show k.box ≤ ((b.map V.int).length : Int) - 1 by rw [hl]; omega)]; rfl) ?_⟩
  refine ⟨_, rfl, _, rfl, .inr ⟨rd, _, rfl, h2, ?_, ?_⟩⟩
  · intro v hv
    simp only [Deed.vs, List.mem_cons, List.mem_nil_iff, or_false] at hv
    rcases hv with rfl | rfl | rfl
    · exact kn_int
    · exact kn_ov _
    · exact kn_ov _
  · rw [tupDeed_ok k5]; exact q
theorem sc_is_board : FnScope ["thing"] ["thing"] (defScope (top 19)) := ⟨rfl, rfl, rfl, by decide +kernel, rfl, by decide +kernel, by decide +kernel⟩
set_option maxHeartbeats 0 in
theorem ok_is_board {n : Nat} {f : Addr} {fd : FuncData} (F : Fun K "is_board" "is_board" (top 19) f fd) (B : Blt mg) (c_is_whole : Callee P w K mg base n "is_whole" ["thing"] (sp_is_whole K))  {t_MOST_BOXES : Tok} (g_MOST_BOXES : mg "MOST_BOXES" = some (.int 16 t_MOST_BOXES))  :
    FnOk P w K mg base CX0 (n + 1) f fd ["thing"] (sp_is_board K) := by
  refine F.ok sc_is_board sp1_len (fun cdv A outer s H vs Q E hr h => ?_)
  obtain ⟨x, rfl, b, ⟨r, rfl, hs⟩, b1, b2, q⟩ := h
  refine ⟨_, (pss_cons (ps_if (PW.pt (pw_or (pt_not (pt_val (pe_callB call_isi rfl B.isinstance b_isinstance (pa_cons (pv 0) (pa_cons (pe_tyn rfl B.tuple b_tuple) pa_nil))))) (pw_or1 (pt_not (pt_chain op_le op_le pe_int (pe_callB call_len_seq rfl B.len b_len (pa_cons (pv 0) pa_nil)) (pe_glob rfl g_MOST_BOXES (show RelV (.int 16) (.int 16 t_MOST_BOXES) from ⟨_, rfl⟩))))))) (pss_one (ps_ret pe_bl)) pss_nil) (pss_one (ps_ret (pe_callB (call_allB rfl) rfl B.all b_all (pa_cons (pe_compT (CSc.of (N' := ["value"]) (sub := [none]) (defScope (top 19)) ["thing"] rfl rfl (by decide +kernel) rfl) rfl (pi_tup (pv 0)) (fun _ _ _ _ _ _ => pg_name (i := 0) (show (["value"] : List Str).Nodup by decide +kernel) rfl (Or.inl rfl)) (fun _ _ _ _ _ _ => pifs_nil) (fun _ _ _ _ _ _ => (pe_callC c_is_whole hr rfl (pa_cons (pv 0) pa_nil)))) pa_nil))))), ?_⟩
  have hl : (b.map V.int).length = b.length := List.length_map ..
  refine ⟨_, rfl, _, _, _, true, rfl, .inl ⟨rfl, _, hs⟩, rfl, _, rfl, iteF ?_⟩
  refine ⟨_, rfl, r, _, rfl, .inr hs, _, _, rfl, rfl, _, rfl, iteT' (decide_eq_true (by rw [hl]; omega)) ⟨_, _, rfl, rfl, _, rfl, iteF' (by rw [decide_eq_true (show ((b.map V.int).length : Int) ≤ 16 by rw [hl]; omega)]; rfl) ?_⟩⟩
  refine ⟨_, rfl, r, rfl, ⟨_, hs⟩, comp_mapT (fun _ => V.bl true) hs (by rw [hl]; omega) ?_ ?_⟩
  · intro x H1 R hx g k
    obtain ⟨i, _, rfl⟩ := List.mem_map.mp hx
    exact ⟨_, rfl, _, rfl, kn_int, k _ (Grow.refl _ _)⟩
  · intro H1 p g hp
    refine ⟨p, b.map (fun _ => true), rfl, SqL.of (by rw [upd_same, trues_eq]), ?_⟩
    rw [all_trues]
    exact q _ (g.trans (Grow.new hp _))
theorem sc_need_board : FnScope ["thing"] ["thing"] (defScope (top 20)) := ⟨rfl, rfl, rfl, by decide +kernel, rfl, by decide +kernel, by decide +kernel⟩
set_option maxHeartbeats 0 in
theorem ok_need_board {n : Nat} {f : Addr} {fd : FuncData} (F : Fun K "need_board" "need_board" (top 20) f fd) (B : Blt mg) (c_is_board : Callee P w K mg base n "is_board" ["thing"] (sp_is_board K))    :
    FnOk P w K mg base CX0 (n + 1) f fd ["thing"] (sp_need_board K) := by
  refine F.ok sc_need_board sp1_len (fun cdv A outer s H vs Q E hr h => ?_)
  obtain ⟨x, rfl, b, hb, b1, b2, q⟩ := h
  refine ⟨_, (pss_one (ps_if (pt_not (pt_val (pe_callC c_is_board hr rfl (pa_cons (pv 0) pa_nil)))) (pss_one ps_never) pss_nil)), ?_⟩
  exact ⟨_, rfl, _, rfl, b, hb, b1, b2, fun H1 g1 => ⟨_, rfl, iteF (q _ g1)⟩⟩
theorem sc_are_asks : FnScope ["board", "thing"] ["board", "thing"] (defScope (top 22)) := ⟨rfl, rfl, rfl, by decide +kernel, rfl, by decide +kernel, by decide +kernel⟩
set_option maxHeartbeats 0 in
theorem ok_are_asks {n : Nat} {f : Addr} {fd : FuncData} (F : Fun K "are_asks" "are_asks" (top 22) f fd) (B : Blt mg) (c_is_ask : Callee P w K mg base n "is_ask" ["board", "thing"] (sp_is_ask K)) (c_need_board : Callee P w K mg base n "need_board" ["thing"] (sp_need_board K))    :
    FnOk P w K mg base CX0 (n + 1) f fd ["board", "thing"] (sp_are_asks K) := by
  refine F.ok sc_are_asks sp2_len (fun cdv A outer s H vs Q E hr h => ?_)
  obtain ⟨x, y, rfl, b, ks, hb, b1, b2, ha, hk, hok, q⟩ := h
  refine ⟨_, (pss_cons (ps_expr (pe_callC c_need_board hr rfl (pa_cons (pv 0) pa_nil))) (pss_one (ps_ret (pe_and (pe_callB call_isi rfl B.isinstance b_isinstance (pa_cons (pv 1) (pa_cons (pe_tyn rfl B.tuple b_tuple) pa_nil))) (pe_one (pe_callB (call_allB rfl) rfl B.all b_all (pa_cons (pe_compT (CSc.of (N' := ["ask", "board"]) (sub := [none, some 0]) (defScope (top 22)) ["board", "thing"] rfl rfl (by decide +kernel) rfl) rfl (pi_tup (pv 1)) (fun _ _ _ _ _ _ => pg_name (i := 0) (show (["ask", "board"] : List Str).Nodup by decide +kernel) rfl (Or.inl rfl)) (fun _ _ _ _ _ _ => pifs_nil) (fun _ _ _ _ _ _ => (pe_callC c_is_ask hr rfl (pa_cons (pv 1) (pa_cons (pv 0) pa_nil))))) pa_nil))))))), ?_⟩
  refine ⟨_, rfl, _, rfl, b, hb, b1, b2, fun H1 g1 => ?_⟩
  obtain ⟨r, xs, rfl, hs, hall⟩ := g1.asks ha
  refine ⟨_, rfl, _, _, _, true, rfl, .inl ⟨rfl, _, hs⟩, rfl, _, rfl, iteT ?_⟩
  have hl := hall.len
  refine ⟨_, rfl, r, rfl, ⟨_, hs⟩, comp_mapT (fun _ => V.bl true) hs (by omega) ?_ ?_⟩
  · intro v H2 R hv g k
    obtain ⟨i, hi⟩ := List.getElem?_of_mem hv
    obtain ⟨kk, hkk, hak⟩ := hall.get hi
    exact ⟨_, rfl, _, rfl, _, _, rfl, b, kk, (g1.trans g).board hb, g.ask hak, hok kk (List.mem_of_getElem? hkk), k _ (Grow.refl _ _)⟩
  · intro H2 p g hp
    refine ⟨p, xs.map (fun _ => true), rfl, SqL.of (by rw [upd_same, List.map_map]; rfl), ?_⟩
    rw [all_trues]
    exact q _ (g1.trans (g.trans (Grow.new hp _)))
theorem sc_need_asks : FnScope ["board", "thing"] ["board", "thing"] (defScope (top 23)) := ⟨rfl, rfl, rfl, by decide +kernel, rfl, by decide +kernel, by decide +kernel⟩
set_option maxHeartbeats 0 in
theorem ok_need_asks {n : Nat} {f : Addr} {fd : FuncData} (F : Fun K "need_asks" "need_asks" (top 23) f fd) (B : Blt mg) (c_are_asks : Callee P w K mg base n "are_asks" ["board", "thing"] (sp_are_asks K))    :
    FnOk P w K mg base CX0 (n + 1) f fd ["board", "thing"] (sp_need_asks K) := by
  refine F.ok sc_need_asks sp2_len (fun cdv A outer s H vs Q E hr h => ?_)
  obtain ⟨x, y, rfl, b, ks, hb, b1, b2, ha, hk, hok, q⟩ := h
  refine ⟨_, (pss_one (ps_if (pt_not (pt_val (pe_callC c_are_asks hr rfl (pa_cons (pv 0) (pa_cons (pv 1) pa_nil))))) (pss_one ps_never) pss_nil)), ?_⟩
  exact ⟨_, rfl, _, rfl, _, _, rfl, b, ks, hb, b1, b2, ha, hk, hok, fun H1 g1 => ⟨_, rfl, iteF (q _ g1)⟩⟩
theorem sc_need_round : FnScope ["k", "board", "asks", "hands"] ["k", "board", "asks"] (defScope (top 39)) := ⟨rfl, rfl, rfl, by decide +kernel, rfl, by decide +kernel, by decide +kernel⟩
set_option maxHeartbeats 0 in
theorem ok_need_round {n : Nat} {f : Addr} {fd : FuncData} (F : Fun K "need_round" "need_round" (top 39) f fd) (B : Blt mg) (c_is_line : Callee P w K mg base n "is_line" ["k", "thing"] (sp_is_line K)) (c_need_asks : Callee P w K mg base n "need_asks" ["board", "thing"] (sp_need_asks K)) (c_need_net : Callee P w K mg base n "need_net" ["thing"] (sp_need_net K)) (g_set : mg "set" = none)   :
    FnOk P w K mg base CX0 (n + 1) f fd ["k", "board", "asks"] (sp_need_round K) := by
  refine F.ok sc_need_round sp3_len (fun cdv A outer s H vs Q E hr h => ?_)
  obtain ⟨x, y, z, rfl, k, b, ks, rfl, k4, hb, b1, b16, hks, k16, R, q⟩ := h
  refine ⟨_, (pss_cons (ps_expr (pe_callC c_need_net hr rfl (pa_cons (pv 0) pa_nil))) (pss_cons (ps_expr (pe_callC c_need_asks hr rfl (pa_cons (pv 1) (pa_cons (pv 2) pa_nil)))) (pss_cons (ps_compT (i := 3) sc_need_round.nd rfl rfl (CSc.of (N' := ["hand", "box", "deed"]) (sub := [none, none, none]) (defScope (top 39)) ["k", "board", "asks", "hands"] rfl rfl (by decide +kernel) rfl) rfl (pi_tup (pv 2)) (fun _ _ _ _ _ _ => pg_tupK (K := K) 3 rfl rfl (pgs_cons (pg_name (i := 0) (show (["hand", "box", "deed"] : List Str).Nodup by decide +kernel) rfl (Or.inl rfl) (Or.inr rfl)) (pgs_cons (pg_name (i := 1) (show (["hand", "box", "deed"] : List Str).Nodup by decide +kernel) rfl (Or.inl rfl) (Or.inr rfl)) (pgs_cons (pg_name (i := 2) (show (["hand", "box", "deed"] : List Str).Nodup by decide +kernel) rfl (Or.inl rfl) (Or.inr rfl)) pgs_nil))) rfl rfl) (fun _ _ _ _ _ _ => pifs_nil) (fun _ _ _ _ _ _ => (pv 0))) (pss_one (ps_if (PW.pt (pw_or (pt_cmpR op_ne (pe_callB call_lenS rfl B.len b_len (pa_cons (pe_callTy (call_setL hr) rfl g_set b_set (pa_cons (pv 3) pa_nil)) pa_nil)) (pe_callB call_len_seq rfl B.len b_len (pa_cons (pv 3) pa_nil)) (nomark _)) (pw_or1 (pt_not (pt_val (pe_callB (call_allB rfl) rfl B.all b_all (pa_cons (pe_compT (CSc.of (N' := ["hand", "k"]) (sub := [none, some 0]) (defScope (top 39)) ["k", "board", "asks", "hands"] rfl rfl (by decide +kernel) rfl) rfl (pi_list (pv 3)) (fun _ _ _ _ _ _ => pg_name (i := 0) (show (["hand", "k"] : List Str).Nodup by decide +kernel) rfl (Or.inl rfl)) (fun _ _ _ _ _ _ => pifs_nil) (fun _ _ _ _ _ _ => (pe_callC c_is_line hr rfl (pa_cons (pv 1) (pa_cons (pv 0) pa_nil))))) pa_nil))))))) (pss_one ps_never) pss_nil))))), ?_⟩
  have aok := R.ask k4
  refine ⟨_, rfl, _, rfl, k, rfl, k4, ?_⟩
  refine ⟨_, rfl, _, rfl, _, _, rfl, b, ks, hb, b1, b16, hks, by omega, aok, fun H1 g1 => ?_⟩
  obtain ⟨ra, xs, rfl, hra, hxs⟩ := g1.asks hks
  have xl : xs.length = ks.length := allA_len41 hxs
  refine c_nx (c_asg (fun v H' => ∃ l, v = .ref l ∧ H' l = some (.lst ((ks.map (·.hand)).map V.int)) ∧ Grow [] H1 H') (fun Kk hk => ⟨_, rfl, ra, rfl, ⟨_, hra⟩, comp_tupG (xs := xs) (fun n ys σ' H' => H' = H1 ∧ (∃ e1 e2 e3, σ' = [e1, e2, e3]) ∧ ys = ((ks.take n).map (·.hand)).map V.int) ⟨rfl, ⟨_, _, _, rfl⟩, rfl⟩ (fun n ys σ' H' _ z => by rw [z.1]; exact hra) ?_ ?_⟩) ?_)
  · rintro n y ys σ' H' hy ⟨rfl, ⟨e1, e2, e3, rfl⟩, rfl⟩
    obtain ⟨a, ha, r, rd, rfl, h1, h2⟩ := hxs.get hy
    have hn := (List.getElem?_eq_some_iff.mp ha).1
    refine ⟨r, _, rfl, h1, rfl, _, _, rfl, _, _, rfl, _, _, rfl, rfl, ?_⟩
    refine ⟨_, rfl, small1000 (by rw [List.length_map, List.length_map, List.length_take]; omega), rfl, ⟨_, _, _, rfl⟩, ?_⟩
    rw [List.take_succ, ha, List.map_append, List.map_append]; rfl
  · rintro ys σ' H' ⟨rfl, _, rfl⟩ l hl
    rw [xl, List.take_length]
    exact hk _ _ ⟨l, rfl, upd_same, Grow.new hl _⟩
  rintro _ H2 ⟨l, rfl, hl, g2⟩
  have nl : (ks.map (·.hand)).length ≤ 1000 := by rw [List.length_map]; omega
  refine ⟨_, rfl, l, _, rfl, SqL.of hl, nl, fun l3 hl3 => ⟨l3, _, _, rfl, upd_same, _, rfl, ?_⟩⟩
  have g3 := Grow.new (m := []) hl3 (.set (fun j => (dedI (ks.map (·.hand))).any (· == j)) (dedI (ks.map (·.hand))).length)
  have hl3' := g3.keep _ _ (by simp) hl
  have e : decide (V.int ((dedI (ks.map (·.hand))).length : Int) = V.int (((ks.map (·.hand)).map V.int).length : Int)) = true := decide_eq_true (congrArg V.int (by rw [ded_nd R.nd]; simp only [List.length_map]))
  refine ⟨l, _, rfl, .inl (SqL.of hl3'), rfl, _, rfl, iteF' (by rw [e]; rfl) ?_⟩
  generalize upd H2 l3 (.set (fun j => (dedI (ks.map (·.hand))).any (· == j)) (dedI (ks.map (·.hand))).length) = H3 at g3 hl3' ⊢
  refine ⟨_, rfl, l, rfl, ⟨_, SqL.of hl3'⟩, comp_listP (xs := (ks.map (·.hand)).map V.int) (fun i ys H' => H' = H3 ∧ ys = (List.replicate i true).map V.bl) ⟨rfl, rfl⟩ (fun i ys H' z => by rw [z.1]; exact SqL.of hl3') ?_ ?_⟩
  · rintro i x ys H' hx ⟨rfl, rfl⟩
    rw [List.map_map, List.getElem?_map] at hx
    obtain ⟨a, ha, rfl⟩ := Option.map_eq_some_iff.mp hx
    have hn := (List.getElem?_eq_some_iff.mp ha).1
    obtain ⟨h0, h1⟩ := R.hand a (List.mem_of_getElem? ha)
    have h1' := hand_nat41 h0 h1
    refine ⟨_, rfl, _, rfl, _, _, rfl, k, a.hand.toNat, rfl, congrArg V.int (Int.toNat_of_nonneg h0).symm, k4, h1', small1000 (by rw [List.length_map, List.length_replicate]; omega), rfl, ?_⟩
    rw [List.replicate_succ', List.map_append]; rfl
  · rintro ys H' ⟨rfl, rfl⟩ l4 hl4
    refine ⟨l4, _, rfl, SqL.of upd_same, _, rfl, iteF' ?_ (q _ (g1.trans (g2.trans (g3.trans (Grow.new hl4 _)))))⟩
    rw [show (List.replicate ((ks.map (·.hand)).map V.int).length true).all id = true from List.all_eq_true.mpr fun x hx => (List.eq_of_mem_replicate hx)]; rfl
theorem sc_one_round : FnScope ["k", "board", "asks", "firsts", "levels", "stages", "values", "answers", "line", "box", "deed", "stage"] ["k", "board", "asks", "firsts"] (defScope (top 44)) := ⟨rfl, rfl, rfl, by decide +kernel, rfl, by decide +kernel, by decide +kernel⟩
set_option maxHeartbeats 0 in
theorem ok_one_round {n : Nat} {f : Addr} {fd : FuncData} (F : Fun K "one_round" "one_round" (top 44) f fd) (B : Blt mg) (c_share_stage : Callee P w K mg base n "share_stage" ["k", "stage", "asked", "kept", "firsts", "answers"] (sp_share41 K)) (c_made : Callee P w K mg base n "made" ["deed", "value"] (sp_made K)) (c_pass_net : Callee P w K mg base n "pass_net" ["k", "asks", "firsts"] (sp_pnet41 K)) (c_need_settings : Callee P w K mg base n "need_settings" ["k", "thing"] (sp_need_settings K)) (c_need_round : Callee P w K mg base n "need_round" ["k", "board", "asks"] (sp_need_round K))    :
    FnOk P w K mg base CX0 (n + 1) f fd ["k", "board", "asks", "firsts"] (sp_round41 K) := by
  refine F.ok sc_one_round sp4_len (fun cdv A outer s H vs Q E hr h => ?_)
  obtain ⟨x, y, z, u, rfl, k, b, ks, rows, rfl, k4, hb, b1, b16, hks, k16, R, hrw, hs, q⟩ := h
  refine ⟨_, (pss_cons (ps_expr (pe_callC c_need_round hr rfl (pa_cons (pv 0) (pa_cons (pv 1) (pa_cons (pv 2) pa_nil))))) (pss_cons (ps_expr (pe_callC c_need_settings hr rfl (pa_cons (pv 0) (pa_cons (pv 3) pa_nil)))) (pss_cons (ps_asg (pe_callC c_pass_net hr rfl (pa_cons (pv 0) (pa_cons (pv 2) (pa_cons (pv 3) pa_nil)))) (pg_tup rfl (pgs_cons (pg_name (i := 4) sc_one_round.nd rfl (Or.inl rfl)) (pgs_cons (pg_name (i := 5) sc_one_round.nd rfl (Or.inl rfl)) pgs_nil)))) (pss_cons (ps_set (i := 6) sc_one_round.nd rfl (Or.inl rfl) (pe_callTy call_list_of rfl B.list b_list (pa_cons (pv 1) pa_nil))) (pss_cons (ps_set (i := 7) sc_one_round.nd rfl (Or.inr rfl) pe_dnewT) (pss_cons (ps_for PassesOwn.never rfl (pi_itm (pe_ix ix_list (pv 4) (pv 0) (fun _ _ => rfl))) (pg_tup rfl (pgs_cons (pg_tup rfl (pgs_cons (pg_name (i := 8) sc_one_round.nd rfl (Or.inl rfl)) (pgs_cons (pg_name (i := 9) sc_one_round.nd rfl (Or.inl rfl)) pgs_nil))) (pgs_cons (pg_name (i := 10) sc_one_round.nd rfl (Or.inl rfl)) pgs_nil))) (pss_cons (ps_dput (Room.u1F hr) (pv 7) (pe_tup (pa_cons (pv 8) (pa_cons (pv 9) pa_nil))) (pe_ix ix_tup (pv 1) (pv 9) (fun _ _ => rfl)) rfl) (pss_one (ps_asg (pe_callC c_made hr rfl (pa_cons (pv 10) (pa_cons (pe_ix ix_tup (pv 1) (pv 9) (fun _ _ => rfl)) pa_nil))) (pg_sub (pv 6) (pv 9) set_list))))) (pss_cons (ps_for PassesOwn.never rfl (pi_rangeD rfl B.range (pa_cons (pv 0) (pa_cons pe_int (pa_cons (pe_un un_neg pe_int) pa_nil)))) (pg_name (i := 11) sc_one_round.nd rfl (Or.inl rfl)) (pss_one (ps_set (i := 7) sc_one_round.nd rfl (Or.inr rfl) (pe_callC c_share_stage hr rfl (pa_cons (pv 0) (pa_cons (pv 11) (pa_cons (pe_ix ix_list (pv 4) (pe_op op_sub (pv 11) pe_int) (fun _ _ => rfl)) (pa_cons (pe_ix ix_list (pv 5) (pe_op op_sub (pv 11) pe_int) (fun _ _ => rfl)) (pa_cons (pv 3) (pa_cons (pv 7) pa_nil)))))))))) (pss_one (ps_ret (pe_tup (pa_cons (pe_callTy call_tuple_of rfl B.tuple b_tuple (pa_cons (pe_compT (CSc.of (N' := ["hand", "box", "deed", "answers"]) (sub := [none, none, none, some 7]) (defScope (top 44)) ["k", "board", "asks", "firsts", "levels", "stages", "values", "answers", "line", "box", "deed", "stage"] rfl rfl (by decide +kernel) rfl) rfl (pi_tup (pv 2)) (fun _ _ _ _ _ _ => pg_tupK (K := K) 3 rfl rfl (pgs_cons (pg_name (i := 0) (show (["hand", "box", "deed", "answers"] : List Str).Nodup by decide +kernel) rfl (Or.inl rfl) (Or.inr rfl)) (pgs_cons (pg_name (i := 1) (show (["hand", "box", "deed", "answers"] : List Str).Nodup by decide +kernel) rfl (Or.inl rfl) (Or.inr rfl)) (pgs_cons (pg_name (i := 2) (show (["hand", "box", "deed", "answers"] : List Str).Nodup by decide +kernel) rfl (Or.inl rfl) (Or.inr rfl)) pgs_nil))) rfl rfl) (fun _ _ _ _ _ _ => pifs_nil) (fun _ _ _ _ _ _ => (pe_dget (Room.u1F hr) (pv 3) (pe_tup (pa_cons (pv 0) (pa_cons (pv 1) pa_nil))) (fun _ _ => rfl)))) pa_nil)) (pa_cons (pe_callTy call_tuple_of rfl B.tuple b_tuple (pa_cons (pv 6) pa_nil)) pa_nil)))))))))))), ?_⟩
  have p16 := pow16 k4
  refine ⟨_, rfl, _, rfl, _, rfl, _, _, _, rfl, k, b, ks, rfl, k4, hb, b1, b16, hks, k16, R, fun H1 g1 => ?_⟩
  refine ⟨_, rfl, _, rfl, _, _, rfl, k, rows, rfl, k4, g1.rows hrw, hs, fun H2 g2 => ?_⟩
  have G2 := g1.trans g2
  refine ⟨_, rfl, _, rfl, _, rfl, _, _, _, rfl, k, b.length, rows, ks, rfl, k4, b16, k16, G2.asks hks, G2.rows hrw, hs, R, fun r0 lL lS ds kps H3 g3 s3 hL3 hS3 dl kpl N3 fr3 => ?_⟩
  have G3 := G2.trans g3
  have fr : ∀ d ∈ ds ++ kps, H d = none := fun d hd => G2.free (by simp) (fr3 d hd)
  refine ⟨r0, [.ref lL, .ref lS], rfl, s3, rfl, _, _, rfl, _, _, rfl, rfl, ?_⟩
  obtain ⟨rb, rfl, hrb⟩ := hb
  refine c_nx (c_asg (fun v H' => ∃ lv, v = .ref lv ∧ H3 lv = none ∧ H' = upd H3 lv (.lst (b.map V.int))) (fun Kk hk => ⟨_, rfl, rb, _, rfl, .inr (G3.sqT hrb), fun l hl => hk _ _ ⟨l, rfl, hl, rfl⟩⟩) ?_)
  rintro _ _ ⟨lv, rfl, hlv, rfl⟩
  have g4 := Grow.new (m := []) hlv (.lst (b.map V.int))
  have hV4 := upd_same (H := H3) (a := lv) (o := .lst (b.map V.int))
  have hlvH : H lv = none := G3.free (by simp) hlv
  have hL4 := g4.keep _ _ (by simp) hL3
  have hS4 := g4.keep _ _ (by simp) hS3
  have N4 := N3.grow g4 (by simp)
  have G4 := G3.trans g4
  generalize upd H3 lv (.lst (b.map V.int)) = H4 at g4 hV4 hL4 hS4 N4 G4 ⊢
  refine c_asg (fun v H' => ∃ la, v = .ref la ∧ H4 la = none ∧ H' = upd H4 la (.dT [])) (fun Kk hk => fun p hp => hk _ _ ⟨p, rfl, hp, rfl⟩) ?_
  rintro _ _ ⟨la, rfl, hla, rfl⟩
  have g5 := Grow.new (m := []) hla (.dT [])
  have hA5 := upd_same (H := H4) (a := la) (o := .dT [])
  have hlaH : H la = none := G4.free (by simp) hla
  have nla : ∀ e ∈ ds ++ kps, e ≠ la := fun e he w => by
    obtain ⟨kv, hk⟩ := N4.isD he
    exact Rd.ne_none hk (w ▸ hla)
  have nlv : ∀ e ∈ ds ++ kps, e ≠ lv := fun e he w => by
    obtain ⟨kv, hk⟩ := N4.isD he
    exact Rd.ne_lst hk hV4 w
  have nva : lv ≠ la := fun w => by rw [w, hla] at hV4; cases hV4
  have hV5 := g5.keep _ _ (by simp) hV4
  have hL5 := g5.keep _ _ (by simp) hL4
  have hS5 := g5.keep _ _ (by simp) hS4
  have N5 := N4.grow g5 (by simp)
  have G5 := G4.trans g5
  generalize upd H4 la (.dT []) = H5 at g5 hA5 hV5 hL5 hS5 N5 G5 ⊢
  obtain ⟨dk, hdk⟩ : ∃ d, ds[k]? = some d := ⟨_, List.getElem?_eq_getElem (by omega)⟩
  have mdk : dk ∈ ds ++ kps := List.mem_append_left _ (List.mem_of_getElem? hdk)
  obtain ⟨kvs, hrd, tab, kl⟩ := N5.lv k dk hdk
  refine ⟨_, rfl, _, rfl, lL, _, _, _, rfl, rfl, SqL.of hL5, atI_map rfl hdk, dk, kvs, rfl, hrd, fun o H6 hd6 g6 same6 => ?_⟩
  have tab6 : TabR kvs (2 ^ k) b.length (lvR k rows ks k) (DeedAt K H6) := tab.imp fun v x hv => g6.deed hv
  have N6 : NetR K H6 k b.length rows ks ds kps := N5.walk hdk g6 ⟨kvs, .inr ⟨o, hd6⟩, tab6, kl⟩
  have hA6 : H6 la = some (.dT []) := by rw [same6 la (Ne.symm (nla dk mdk))]; exact hA5
  have hV6 : H6 lv = some (.lst (b.map V.int)) := by rw [same6 lv (Ne.symm (nlv dk mdk))]; exact hV5
  have hL6 := g6.keep _ _ (by simpa using Ne.symm (Rd.ne_lst hrd hL5)) hL5
  have hS6 := g6.keep _ _ (by simpa using Ne.symm (Rd.ne_lst hrd hS5)) hS5
  have G6 : Grow [] H H6 := Grow.tfresh G5 g6 (fun d hd => by rw [List.mem_singleton.mp hd]; exact fr dk mdk)
  have nLv : lL ≠ lv := fun w => by rw [w, hlv] at hL3; cases hL3
  have nSv : lS ≠ lv := fun w => by rw [w, hlv] at hS3; cases hS3
  have nLa : lL ≠ la := fun w => by rw [w, hla] at hL4; cases hL4
  have nSa : lS ≠ la := fun w => by rw [w, hla] at hS4; cases hS4
  refine for_itm (fun i σ H' => ∃ (e8 e9 e10 e11 : Option V) (tk : List (List Key × V)) (w : List Int), σ = [some (.int k), some (.ref rb), some z, some u, some (.ref lL), some (.ref lS), some (.ref lv), some (.ref la), e8, e9, e10, e11] ∧ Grow [lv, la] H6 H' ∧ H' la = some (.dT tk) ∧ H' lv = some (.lst (w.map V.int)) ∧ PTab kvs (2 ^ k) b.length (anF k rows ks (bdF b) k) (fun v x => v = .int x) i tk ∧ VI kvs b (finR k rows ks (bdF b)) i w) ?_ ?_ ?_ ?_
  · exact ⟨_, _, _, _, [], b, rfl, Grow.refl _ _, hA6, hV6, PTab.nil, VI.nil⟩
  · rintro i σ H' _ ⟨e8, e9, e10, e11, tk, w, rfl, g, _⟩
    exact g.frz _ _ _ hd6
  · rintro i p bb T σ H7 hp hbb hT ⟨e8, e9, e10, e11, tk, w, rfl, g7, hA7, hV7, P7, W7⟩
    obtain ⟨l, c, dd, ep, hl, hc, hlv', hdd⟩ := tab6.keys p (List.mem_of_getElem? hp)
    obtain ⟨pk, v⟩ := p
    cases (show pk = keyR l c from ep)
    have g8 := Grow.new (m := []) hT (.tup [.ref bb, v])
    have hT8 := upd_same (H := H7) (a := T) (o := .tup [.ref bb, v])
    have hbb8 : upd H7 T (.tup [.ref bb, v]) bb = some (.tup [.int l, .int c]) := g8.keep _ _ (by simp) hbb
    have hA8 := g8.keep _ _ (by simp) hA7
    have hV8 := g8.keep _ _ (by simp) hV7
    have G8 : Grow [lv, la] H6 (upd H7 T (.tup [.ref bb, v])) := g7.trans g8.wk
    show gTup _ _ _ _ _ _ _
    generalize upd H7 T (.tup [.ref bb, v]) = H8 at g8 hT8 hbb8 hA8 hV8 G8 ⊢
    refine ⟨T, [.ref bb, v], rfl, SqT.of hT8, rfl, _, _, rfl, bb, [.int l, .int c], rfl, SqT.of hbb8, rfl, _, _, rfl, _, _, rfl, rfl, _, _, rfl, rfl, ?_⟩
    have hgb := bdF_get hc
    have el : l = c % 2 ^ k := lv_side R k4 hs hl (by rw [hlv']; exact fun z => nomatch z)
    have hix : atI (b.map V.int) (c : Int) = some (V.int (bdF b c)) := atI_map rfl hgb
    have hrb8 := G8.sqT (G6.sqT hrb)
    have P8 := P7.p4
    have hi : i < kvs.length := (List.getElem?_eq_some_iff.mp hp).1
    refine ⟨_, rfl, _, rfl, rb, _, _, _, rfl, rfl, hrb8, hix, _, rfl, _, rfl, _, rfl, szl rfl, fun t2 ht2 => ?_⟩
    have g9 := Grow.new (m := []) ht2 (.tup [.int l, .int c])
    have hA9 := g9.keep _ _ (by simp) hA8
    have hV9 := g9.keep _ _ (by simp) hV8
    have ht9 := upd_same (H := H8) (a := t2) (o := .tup [.int l, .int c])
    have G9 : Grow [lv, la] H6 (upd H8 t2 (.tup [.int l, .int c])) := G8.trans g9.wk
    generalize upd H8 t2 (.tup [.int l, .int c]) = H9 at g9 hA9 hV9 ht9 G9 ⊢
    refine ⟨la, _, rfl, DPut.t (k := keyR l c) hA9 ht9 (smallR (by omega)), ?_⟩
    have ga : Grow [lv, la] H9 (upd H9 la (.dT (putK tk (keyR l c) (.int (bdF b c))))) := Grow.setR hA9 (by simp)
    have hAa := upd_same (H := H9) (a := la) (o := .dT (putK tk (keyR l c) (.int (bdF b c))))
    have hVa : upd H9 la (.dT (putK tk (keyR l c) (.int (bdF b c)))) lv = some (.lst (w.map V.int)) := by rw [upd_ne nva]; exact hV9
    have Ga := G9.trans ga
    generalize upd H9 la (.dT (putK tk (keyR l c) (.int (bdF b c)))) = Ha at ga hAa hVa Ga ⊢
    have hcw : c < w.length := by rw [W7.len]; exact hc
    have hixw : ixN (w.map V.int).length (c : Int) = some c := by rw [List.length_map]; exact ixN_nat (i := (c : Int)) (by omega) hcw
    have efin : finR k rows ks (bdF b) c = dd.mk' (bdF b c) := by unfold finR; rw [← el, hlv']
    refine ⟨_, rfl, _, rfl, _, rfl, rb, _, _, _, rfl, rfl, Ga.sqT (G6.sqT hrb), hix, _, _, rfl, dd, _, Ga.deed hdd, rfl, ?_⟩
    refine ⟨_, rfl, _, rfl, lv, _, _, _, rfl, rfl, hVa, hixw, ?_⟩
    refine ⟨_, _, _, _, putK tk (keyR l c) (.int (bdF b c)), w.set c (finR k rows ks (bdF b) c), rfl, Ga.trans (Grow.set hVa (by simp) _), ?_, ?_, P7.step hp hl hc ?_ rfl, W7.step hp hc⟩
    · rw [upd_ne (Ne.symm nva)]; exact hAa
    · rw [upd_same, efin]; exact congrArg (fun z => some (HO.lst z)) List.map_set.symm
    · show (lvR k rows ks k l c).map _ = _
      rw [hlv', Nat.sub_self]; rfl
  · rintro σ H7 ⟨e8, e9, e10, e11, tk, w, rfl, g7, hA7, hV7, P7, W7⟩
    have ew := W7.done tab6
    subst ew
    have T7 := P7.done tab6 (fun l b _ _ hne z => hne (by unfold anF; rw [z]; rfl))
    have N7 := N6.grow g7 (fun d hd z => by
      simp only [List.mem_cons, List.mem_nil_iff, or_false] at z
      exact z.elim (nlv d hd) (nla d hd))
    have hL7 := g7.keep _ _ (fun z => by
      simp only [List.mem_cons, List.mem_nil_iff, or_false] at z
      exact z.elim nLv nLa) hL6
    have hS7 := g7.keep _ _ (fun z => by
      simp only [List.mem_cons, List.mem_nil_iff, or_false] at z
      exact z.elim nSv nSa) hS6
    have G7 : Grow [] H H7 := Grow.tfresh G6 g7 (fun d hd => by
      simp only [List.mem_cons, List.mem_nil_iff, or_false] at hd
      rcases hd with rfl | rfl
      · exact hlvH
      · exact hlaH)
    have A7 : AnAt H7 k b.length rows ks (bdF b) k la := ⟨tk, .inl hA7, T7, Nat.le_trans P7.p4 kl⟩
    refine ⟨_, rfl, _, rfl, _, _, rfl, by omega, by omega, by omega, by omega, for_rangeD (fun i σ H' => ∃ (e8 e9 e10 e11 : Option V) (la : Addr), σ = [some (.int k), some (.ref rb), some z, some u, some (.ref lL), some (.ref lS), some (.ref lv), some (.ref la), e8, e9, e10, e11] ∧ Grow [] H H' ∧ H' lL = some (.lst (ds.map V.ref)) ∧ H' lS = some (.lst (kps.map V.ref)) ∧ H' lv = some (.lst ((finL k rows ks b).map V.int)) ∧ NetR K H' k b.length rows ks ds kps ∧ AnAt H' k b.length rows ks (bdF b) (k - i) la ∧ ∀ e ∈ ds ++ kps, e ≠ la) ⟨_, _, _, _, la, rfl, G7, hL7, hS7, hV7, N7, A7, nla⟩ ?_ ?_⟩
    · rintro i σ H8 hi ⟨e8, e9, e10, e11, la, rfl, G8, hL8, hS8, hV8, N8, A8, na8⟩
      obtain ⟨d, hd⟩ : ∃ d, ds[k - i - 1]? = some d := ⟨_, List.getElem?_eq_getElem (by omega)⟩
      obtain ⟨kp, hkp⟩ : ∃ d, kps[k - i - 1]? = some d := ⟨_, List.getElem?_eq_getElem (by omega)⟩
      have md := List.mem_of_getElem? hd
      have mkp := List.mem_of_getElem? hkp
      have Ld := N8.lv _ d hd
      have Lk := N8.kp _ kp hkp
      rw [show k - i - 1 + 1 = k - i from by omega] at Lk
      refine ⟨_, rfl, _, rfl, _, rfl, _, rfl, _, _, rfl, rfl, lL, _, _, _, rfl, rfl, SqL.of hL8, atI_map (j := k - i - 1) (by omega) hd, _, rfl, _, rfl, _, _, rfl, rfl, lS, _, _, _, rfl, rfl, SqL.of hS8, atI_map (j := k - i - 1) (by omega) hkp, _, rfl, _, rfl, _, _, _, _, _, _, rfl, k, k - i, b.length, d, kp, la, rows, ks, bdF b, rfl, congrArg V.int (by omega), rfl, rfl, rfl, k4, by omega, by omega, b16, Ld, Lk, G8.rows hrw, hs, R, A8, N8.ndk md mkp, na8 d (List.mem_append_left _ md), fun a' H9 g9 ha' A9 L9 => ?_⟩
      obtain ⟨kv, hkv⟩ := Ld.isD
      have md' : d ∈ ds ++ kps := List.mem_append_left _ md
      refine ⟨_, _, _, _, a', rfl, Grow.tfresh G8 g9 (fun e he => by rw [List.mem_singleton.mp he]; exact fr d md'), g9.keep _ _ (by simpa using Ne.symm (Rd.ne_lst hkv hL8)) hL8, g9.keep _ _ (by simpa using Ne.symm (Rd.ne_lst hkv hS8)) hS8, g9.keep _ _ (by simpa using Ne.symm (Rd.ne_lst hkv hV8)) hV8, N8.walk hd g9 L9, ?_, fun e he w => ?_⟩
      · rw [show k - (i + 1) = k - i - 1 from by omega]; exact A9
      · obtain ⟨kv, hk⟩ := N8.isD he
        exact Rd.ne_none hk (w ▸ ha')
    · rintro σ H8 ⟨e8, e9, e10, e11, la, rfl, G8, hL8, hS8, hV8, N8, A8, na8⟩
      rw [show k - ((k : Int) - 0).toNat = 0 from by omega] at A8
      obtain ⟨ak, hak, at8, al⟩ := A8
      obtain ⟨ra, xs, rfl, hra, hxs⟩ := G8.asks hks
      have xl := hxs.len
      refine ⟨_, rfl, ra, rfl, ⟨_, hra⟩, comp_tupG (xs := xs) (fun n ys σ' H' => Grow [] H8 H' ∧ (∃ e1 e2 e3, σ' = [e1, e2, e3, some (.ref la)]) ∧ ys = ((ks.take n).map fun a => stvR k rows ks (bdF b) k a.hand.toNat a.box.toNat).map V.int) ⟨Grow.refl _ _, ⟨_, _, _, rfl⟩, rfl⟩ (fun n ys σ' H' _ z => z.1.sqT hra) ?_ ?_⟩
      · rintro n x ys σ' H9 hx ⟨g9, ⟨e1, e2, e3, rfl⟩, rfl⟩
        obtain ⟨a, ha, r, rd, rfl, h1, h2⟩ := hxs.get hx
        have hn := (List.getElem?_eq_some_iff.mp ha).1
        have am := List.mem_of_getElem? ha
        refine ⟨r, _, rfl, g9.sqT h1, rfl, _, _, rfl, _, _, rfl, _, _, rfl, rfl, ?_⟩
        refine ⟨_, rfl, _, rfl, _, rfl, szl rfl, fun t ht => ?_⟩
        have gt := Grow.new (m := []) ht (.tup [.int a.hand, .int a.box])
        have et : upd H9 t (.tup [.int a.hand, .int a.box]) t = some (.tup [.int (a.hand.toNat : Nat), .int (a.box.toNat : Nat)]) := by rw [upd_same, Int.toNat_of_nonneg (R.hand a am).1, Int.toNat_of_nonneg (R.box a am).1]
        have hbx := R.box a am
        have hhd := R.hand a am
        have vv := at8.val (l := a.hand.toNat) (b := a.box.toNat) (hand_nat41 hhd.1 hhd.2) (by omega)
        rw [ask_lv R am] at vv
        obtain ⟨v', ev, rfl⟩ := vv
        have gx := dget_rd (Rd.growR gt (.inl (by simp)) (Rd.growR g9 (.inl (by simp)) hak)) et
        rw [ev] at gx
        refine ⟨la, _, rfl, gx, smallR (by rw [List.length_map, List.length_map, List.length_take]; omega), g9.trans gt, ⟨_, _, _, rfl⟩, ?_⟩
        rw [List.take_succ, ha, List.map_append, List.map_append]; rfl
      · rintro ys σ' H9 ⟨g9, _, rfl⟩ l9 hl9
        rw [xl, List.take_length]
        have ga := Grow.new (m := []) hl9 (.lst ((ks.map fun a => stvR k rows ks (bdF b) k a.hand.toNat a.box.toNat).map V.int))
        have ea := upd_same (H := H9) (a := l9) (o := .lst ((ks.map fun a => stvR k rows ks (bdF b) k a.hand.toNat a.box.toNat).map V.int))
        have Ga := g9.trans ga
        refine ⟨l9, _, rfl, .inl ⟨SqL.of ea, fun r1 hr1 => ?_⟩⟩
        have gb := Grow.new (m := []) hr1 (.tup ((ks.map fun a => stvR k rows ks (bdF b) k a.hand.toNat a.box.toNat).map V.int))
        refine ⟨_, rfl, lv, _, rfl, .inl ⟨SqL.of ((Ga.trans gb).keep _ _ (by simp) hV8), fun r2 hr2 => ⟨szl rfl, fun r3 hr3 => ?_⟩⟩⟩
        have gc := Grow.new (m := []) hr2 (.tup ((finL k rows ks b).map V.int))
        have gd := Grow.new (m := []) hr3 (.tup [.ref r1, .ref r2])
        exact q _ _ (G8.trans (Ga.trans (gb.trans (gc.trans gd)))) ⟨r3, r1, r2, rfl, SqT.of upd_same, gd.sqT (gc.sqT (SqT.of upd_same)), gd.sqT (SqT.of upd_same)⟩
theorem sc__law_take : FnScope ["_law_pot_here", "_law_many", "_law_digit"] ["_law_pot_here", "_law_many"] (defScope (top 47)) := ⟨rfl, rfl, rfl, by decide +kernel, rfl, by decide +kernel, by decide +kernel⟩
set_option maxHeartbeats 0 in
theorem ok__law_take {n : Nat} {f : Addr} {fd : FuncData} (F : Fun K "_law_take" "_law_take" (top 47) f fd) (B : Blt mg)     :
    FnOk P w K mg base CX0 (n + 1) f fd ["_law_pot_here", "_law_many"] (sp_take K) := by
  refine F.ok sc__law_take sp2_len (fun cdv A outer s H vs Q E hr h => ?_)
  obtain ⟨x, y, rfl, a, m, rfl, rfl, ⟨p0, p1, hp, h0⟩, hm, hm2, q⟩ := h
  refine ⟨_, (pss_cons (ps_if (pt_cmpR op_gt (pe_ix ix_list (pv 0) pe_int (fun _ _ => rfl)) pe_int (nomark _)) (pss_cons (ps_asg (pe_callB call_divmodL rfl B.divmod b_divmod (pa_cons (pe_ix ix_list (pv 0) pe_int (fun _ _ => rfl)) (pa_cons (pv 1) pa_nil))) (pg_tup rfl (pgs_cons (pg_sub (pv 0) pe_int set_list) (pgs_cons (pg_name (i := 2) sc__law_take.nd rfl (Or.inl rfl)) pgs_nil)))) (pss_one (ps_ret (pv 2)))) pss_nil) (pss_cons (ps_asg (pe_op op_mod (pe_op op_add (pe_op op_mulG (pe_ix ix_list (pv 0) pe_int (fun _ _ => rfl)) pe_int) pe_int) pe_int) (pg_sub (pv 0) pe_int set_list)) (pss_one (ps_ret (pe_op op_mod (pe_op op_fdivL (pe_op op_mod (pe_op op_pow (pe_ix ix_list (pv 0) pe_int (fun _ _ => rfl)) pe_int) pe_int) pe_int) (pv 1)))))), ?_⟩
  refine ⟨_, rfl, a, _, _, _, rfl, rfl, SqL.of hp, rfl, _, _, rfl, rfl, _, rfl, ?_⟩
  refine ite2 (fun c => ?_) (fun c => ?_)
  · refine ⟨_, rfl, a, _, _, _, rfl, rfl, SqL.of hp, rfl, _, rfl, p0, m, rfl, ⟨hm, hm2⟩, fun t ht => ?_⟩
    have hp' : upd H t (.tup [.int (p0 / m), .int (p0 % m)]) a = some (.lst [.int p0, .int p1]) := by rw [upd_ne (ne_of_none hp ht)]; exact hp
    refine ⟨t, _, rfl, SqT.of upd_same, rfl, _, _, rfl, _, rfl, a, _, 0, 0, rfl, rfl, hp', rfl, _, _, rfl, rfl, ?_⟩
    exact ⟨_, rfl, q _ _ (Int.emod_nonneg _ (by omega)) (Int.emod_lt_of_pos _ hm) ((Grow.new ht _).trans (Grow.set hp' (by simp) _)) ⟨p0 / m, p1, upd_same, Int.ediv_nonneg h0 (by omega)⟩⟩
  · refine ⟨_, rfl, a, _, _, _, rfl, rfl, SqL.of hp, rfl, p1, 48271, rfl, rfl, mulOkR ⟨by decide, by decide⟩, _, _, rfl, rfl, _, _, rfl, rfl, (by show (0 : Int) < 2147483647; decide), _, rfl, a, _, 1, 1, rfl, rfl, hp, rfl, ?_⟩
    have b0 : 0 ≤ (p1 * 48271 + 12345) % 2147483647 := Int.emod_nonneg _ (by decide)
    have b1 : (p1 * 48271 + 12345) % 2147483647 < 2147483647 := Int.emod_lt_of_pos _ (by decide)
    refine ⟨_, rfl, a, _, _, _, rfl, rfl, SqL.of upd_same, rfl, _, _, rfl, rfl, ⟨by decide, by decide, ?_⟩, _, _, rfl, rfl, (by show (0 : Int) < 2147483629; decide), _, _, rfl, rfl, ⟨by decide, by decide⟩, _, rfl, _, _, rfl, rfl, hm, ?_⟩
    · show ((p1 * 48271 + 12345) % 2147483647).natAbs < 2 ^ 64
      generalize (p1 * 48271 + 12345) % 2147483647 = v at b0 b1
      omega
    exact q _ _ (Int.emod_nonneg _ (by omega)) (Int.emod_lt_of_pos _ hm) (Grow.set hp (by simp) _) ⟨p0, (p1 * 48271 + 12345) % 2147483647, upd_same, h0⟩
theorem sc__law_firsts : FnScope ["_law_pot_here", "_law_k"] ["_law_pot_here", "_law_k"] (defScope (top 51)) := ⟨rfl, rfl, rfl, by decide +kernel, rfl, by decide +kernel, by decide +kernel⟩
set_option maxHeartbeats 0 in
theorem ok__law_firsts {n : Nat} {f : Addr} {fd : FuncData} (F : Fun K "_law_firsts" "_law_firsts" (top 51) f fd) (B : Blt mg) (c__law_take : Callee P w K mg base n "_law_take" ["_law_pot_here", "_law_many"] (sp_take K))    :
    FnOk P w K mg base CX0 (n + 1) f fd ["_law_pot_here", "_law_k"] (sp_firsts K) := by
  refine F.ok sc__law_firsts sp2_len (fun cdv A outer s H vs Q E hr h => ?_)
  obtain ⟨x, y, rfl, a, k, rfl, rfl, k4, pp, q⟩ := h
  refine ⟨_, (pss_one (ps_ret (pe_callTy call_tuple_of rfl B.tuple b_tuple (pa_cons (pe_compT (CSc.of (N' := ["_law_stage", "_law_k", "_law_pot_here"]) (sub := [none, some 1, some 0]) (defScope (top 51)) ["_law_pot_here", "_law_k"] rfl rfl (by decide +kernel) rfl) rfl (pi_range1 rfl B.range (pa_cons (pv 1) pa_nil)) (fun _ _ _ _ _ _ => pg_name (i := 0) (show (["_law_stage", "_law_k", "_law_pot_here"] : List Str).Nodup by decide +kernel) rfl (Or.inl rfl)) (fun _ _ _ _ _ _ => pifs_nil) (fun _ _ _ _ _ _ => (pe_callTy (call_tupleK (K := K) rfl) rfl B.tuple b_tuple (pa_cons (pe_compT (CSc.nest (N2 := ["_law_number_here", "_law_pot_here"]) (sub2 := [none, some 2]) (CSc.of (N' := ["_law_stage", "_law_k", "_law_pot_here"]) (sub := [none, some 1, some 0]) (defScope (top 51)) ["_law_pot_here", "_law_k"] rfl rfl (by decide +kernel) rfl) rfl (by decide +kernel) rfl) rfl (pi_range1 rfl B.range (pa_cons (pe_op op_fdivL (pe_op op_shl pe_int (pv 1)) pe_int) pa_nil)) (fun _ _ _ _ _ _ => pg_name (i := 0) (show (["_law_number_here", "_law_pot_here"] : List Str).Nodup by decide +kernel) rfl (Or.inl rfl)) (fun _ _ _ _ _ _ => pifs_nil) (fun _ _ _ _ _ _ => (pe_callC c__law_take hr rfl (pa_cons (pv 1) (pa_cons pe_int pa_nil))))) pa_nil)))) pa_nil)))), ?_⟩
  have p16 := pow16 k4
  refine ⟨_, rfl, _, rfl, by omega, by omega, comp_rng (fun i ys H' => ∃ rows : List (List Int), AllR (BoardAt K H') ys rows ∧ rows.length = i ∧ (∀ r ∈ rows, r.length = 2 ^ (k - 1) ∧ ∀ b ∈ r, b = 0 ∨ b = 1) ∧ Grow [a] H H' ∧ Pot H' a) ⟨[], trivial, rfl, (fun r hr => by cases hr), Grow.refl _ _, pp⟩ ?_ ?_⟩
  · rintro i ys H1 hi ⟨rows, ha1, rl, ro, g1, pp1⟩
    have hk1 : 1 ≤ k := by omega
    have e2k : (1 : Int) * 2 ^ ((k : Int)).toNat / 2 = ((2 ^ (k - 1) : Nat) : Int) := by rw [half_fd k4, half_eq hk1]
    have pw : 2 ^ (k - 1) ≤ 16 := pow16 (by omega)
    obtain ⟨W, hW⟩ : ∃ W : Nat, W = 2 ^ (k - 1) := ⟨_, rfl⟩
    rw [← hW] at e2k pw
    refine ⟨_, rfl, _, _, rfl, rfl, shlOne k4, _, _, rfl, rfl, ⟨by decide, by decide⟩, _, rfl, by rw [e2k]; omega, by rw [e2k]; omega, comp_rng (fun j ys H' => ∃ bs : List Int, ys = bs.map V.int ∧ bs.length = j ∧ (∀ b ∈ bs, b = 0 ∨ b = 1) ∧ Grow [a] H1 H' ∧ Pot H' a) ⟨[], rfl, rfl, (fun b hb => by cases hb), Grow.refl _ _, pp1⟩ ?_ ?_⟩
    · rintro j ys H2 hj ⟨bs, rfl, bl, bo, g2, pp2⟩
      have hj16 : j < 16 := by rw [e2k] at hj; omega
      refine ⟨_, rfl, _, _, rfl, a, 2, rfl, rfl, pp2, by decide, by decide, fun n H3 l3 u3 g3 pp3 => ⟨small1000 (by rw [List.length_map]; omega), bs ++ [n], by rw [List.map_append]; rfl, by rw [List.length_append]; show bs.length + 1 = _; omega, ?_, g2.trans g3, pp3⟩⟩
      intro b hb
      rcases List.mem_append.mp hb with z | z
      · exact bo b z
      · rw [List.mem_singleton.mp z]; omega
    rintro ys2 H2 ⟨bs, rfl, bl, bo, g2, pp2⟩ l2 hl2
    refine ⟨l2, _, rfl, .inl ⟨SqL.of upd_same, fun r hr => ?_⟩⟩
    have g3 : Grow [] H2 (upd (upd H2 l2 (.lst (bs.map V.int))) r (.tup (bs.map V.int))) := (Grow.new hl2 _).trans (Grow.new hr _)
    refine ⟨small1000 (by rw [ha1.len]; omega), rows ++ [bs], ((g2.trans g3.wk).boardsR ha1).app (.one ⟨r, rfl, SqT.of upd_same⟩), by rw [List.length_append]; show rows.length + 1 = _; omega, ?_, g1.trans (g2.trans g3.wk), pp2.grow g3⟩
    intro rw' hrw
    rcases List.mem_append.mp hrw with z | z
    · exact ro rw' z
    · rw [List.mem_singleton.mp z]
      refine ⟨?_, bo⟩
      rw [bl, e2k, ← hW]; exact Int.toNat_natCast W
  · rintro ys H1 ⟨rows, ha1, rl, ro, g1, pp1⟩ l hl
    have g2 := Grow.new (m := []) hl (.lst ys)
    refine ⟨l, _, rfl, .inl ⟨SqL.of upd_same, fun r hr => ?_⟩⟩
    have g3 := Grow.new (m := []) hr (.tup ys)
    exact q _ rows _ (g1.trans (g2.trans g3).wk) (pp1.grow (g2.trans g3)) ⟨r, ys, rfl, SqT.of upd_same, (g2.trans g3).boardsR ha1⟩ ⟨by omega, ro⟩
theorem sc__law_asks : FnScope ["_law_pot_here", "_law_k", "_law_many", "_law_adds_here", "_law_is_spread", "_law_is_full", "_law_hot", "_law_asks_here", "_law_hand", "_law_box"] ["_law_pot_here", "_law_k", "_law_many", "_law_adds_here"] (defScope (top 50)) := ⟨rfl, rfl, rfl, by decide +kernel, rfl, by decide +kernel, by decide +kernel⟩
set_option maxHeartbeats 0 in
theorem ok__law_asks {n : Nat} {f : Addr} {fd : FuncData} (F : Fun K "_law_asks" "_law_asks" (top 50) f fd) (B : Blt mg) (c__law_take : Callee P w K mg base n "_law_take" ["_law_pot_here", "_law_many"] (sp_take K))    :
    FnOk P w K mg base CX0 (n + 1) f fd ["_law_pot_here", "_law_k", "_law_many", "_law_adds_here"] (sp_asks43 K) := by
  refine F.ok sc__law_asks sp4_len (fun cdv A outer s H vs Q E hr h => ?_)
  obtain ⟨x, y, z, u, rfl, a, k, m, l, ds, rfl, rfl, rfl, rfl, k4, m1, m16, pp, nla, hl, dl, dsm, dok, q⟩ := h
  refine ⟨_, (pss_cons (ps_par3 (i := 4) (j := 5) (k := 6) rfl sc__law_asks.nd rfl rfl rfl (by decide) (by decide) (by decide) rfl rfl rfl (pa_cons (pe_cmpR op_eq (pe_callC c__law_take hr rfl (pa_cons (pv 0) (pa_cons pe_int pa_nil))) pe_int (nomark _)) (pa_cons (pe_cmpR op_eq (pe_callC c__law_take hr rfl (pa_cons (pv 0) (pa_cons pe_int pa_nil))) pe_int (nomark _)) (pa_cons (pe_callC c__law_take hr rfl (pa_cons (pv 0) (pa_cons (pv 2) pa_nil))) pa_nil))) rfl) (pss_cons (ps_set (i := 7) sc__law_asks.nd rfl (Or.inl rfl) (pe_lst pa_nil)) (pss_cons (ps_for PassesOwn.never rfl (pi_range1 rfl B.range (pa_cons (pe_op op_shl pe_int (pv 1)) pa_nil)) (pg_name (i := 8) sc__law_asks.nd rfl (Or.inl rfl)) (pss_one (ps_if (PW.pt (pw_or (pt_val (pv 5)) (pw_or1 (pt_cmpR op_gt (pe_callC c__law_take hr rfl (pa_cons (pv 0) (pa_cons pe_int pa_nil))) pe_int (nomark _))))) (pss_cons (ps_set (i := 9) sc__law_asks.nd rfl (Or.inl rfl) (pv 6)) (pss_cons (ps_if (pt_val (pv 4)) (pss_one (ps_set (i := 9) sc__law_asks.nd rfl (Or.inl rfl) (pe_callC c__law_take hr rfl (pa_cons (pv 0) (pa_cons (pv 2) pa_nil))))) pss_nil) (pss_one (ps_expr (pe_bm PySem.F.plainAttrs_list PySem.F.slot_list_insert PySem.F.type_list_insert mt_insert (pv 7) (pa_cons (pe_callC c__law_take hr rfl (pa_cons (pv 0) (pa_cons (pe_op op_add (pe_callB call_len_seq rfl B.len b_len (pa_cons (pv 7) pa_nil)) pe_int) pa_nil))) (pa_cons (pe_tup (pa_cons (pv 8) (pa_cons (pv 9) (pa_cons (pe_tup (pa_cons (pe_ix ix_list (pv 3) (pv 8) (fun _ _ => rfl)) (pa_cons pe_non (pa_cons pe_non pa_nil)))) pa_nil)))) pa_nil))))))) pss_nil))) (pss_one (ps_ret (pe_callTy call_tuple_of rfl B.tuple b_tuple (pa_cons (pv 7) pa_nil))))))), ?_⟩
  have p16 := pow16 k4
  obtain ⟨W, hW⟩ : ∃ W : Nat, W = 2 ^ k := ⟨_, rfl⟩
  have e1k : (1 : Int) * 2 ^ ((k : Int)).toNat = W := by rw [one_shl, hW]
  refine ⟨_, rfl, _, _, rfl, a, 2, rfl, rfl, pp, by decide, by decide, fun f1 H1 l1 u1 g1 pp1 => ⟨rfl, _, rfl, _, _, rfl, a, 2, rfl, rfl, pp1, by decide, by decide, fun f2 H2 l2 u2 g2 pp2 => ⟨rfl, _, rfl, _, rfl, _, _, rfl, a, m, rfl, rfl, pp2, by omega, by omega, fun hot H3 l3 u3 g3 pp3 => ⟨_, _, _, rfl, ?_⟩⟩⟩⟩
  generalize decide (V.int f1 = V.int 1) = spread
  generalize decide (V.int f2 = V.int 1) = full
  have G3 : Grow [a] H H3 := g1.trans (g2.trans g3)
  refine c_nx (c_asg (fun v H' => ∃ la, v = .ref la ∧ H3 la = none ∧ H' = upd H3 la (.lst [])) (fun Kk hk => ⟨szl rfl, fun la hla => hk _ _ ⟨la, rfl, hla, rfl⟩⟩) ?_)
  rintro _ _ ⟨la, rfl, hla, rfl⟩
  have nl : l ∉ [a] := by simpa using nla
  have hl3 := G3.keep _ _ nl hl
  have g6 := Grow.new (m := []) hla (.lst [])
  have hA6 := upd_same (H := H3) (a := la) (o := .lst [])
  have pp6 := pp3.new hla (.lst [])
  have hl6 := g6.keep _ _ (by simp) hl3
  have naa : la ≠ a := fun z => by
    obtain ⟨x0, x1, z1, _⟩ := pp3
    rw [z, z1] at hla; cases hla
  have nal : l ≠ la := fun z => by rw [z, hla] at hl3; cases hl3
  have nA : la ∉ [a] := by simpa using naa
  have hlaH : H la = none := G3.free nA hla
  have G6 : Grow [a] H (upd H3 la (.lst [])) := G3.trans g6.wk
  generalize upd H3 la (.lst []) = H6 at g6 hA6 pp6 hl6 G6 ⊢
  refine ⟨_, rfl, _, _, rfl, rfl, shlOne k4, _, rfl, by rw [e1k]; omega, by rw [e1k]; omega, for_range (fun j σ H' => ∃ (e8 e9 : Option V) (ks : List Ask) (xs : List V), σ = [some (.ref a), some (.int k), some (.int m), some (.ref l), some (.bl spread), some (.bl full), some (.int hot), some (.ref la), e8, e9] ∧ Grow [a, la] H6 H' ∧ Pot H' a ∧ H' la = some (.lst xs) ∧ AllA K H' xs ks ∧ ks.length ≤ j ∧ RndS j m ks ∧ ∀ a ∈ ks, ∃ d ∈ ds, a.deed = ⟨d, none, none⟩) ⟨_, _, [], [], rfl, Grow.refl _ _, pp6, hA6, trivial, Nat.le_refl _, RndS.nil, fun _ h => nomatch h⟩ ?_ ?_⟩
  · rintro j σ H7 hj ⟨e8, e9, ks, xs, rfl, g7, pp7, hA7, all7, kj, S7, P7⟩
    have hjW : j < W := by rw [e1k] at hj; omega
    have hl7 := g7.keep _ _ (by simpa using ⟨nla, nal⟩) hl6
    have xl := all7.len
    try dsimp only
    refine ifS_cut41 (fun H' => Grow [a] H7 H' ∧ Pot H' a) (fun Kk hk => ⟨_, rfl, _, rfl, ?_⟩) ?_ ?_
    · cases full with
      | true => exact iteT (hk _ _ ⟨Grow.refl _ _, pp7⟩)
      | false => exact iteF ⟨_, rfl, _, _, rfl, a, 4, rfl, rfl, pp7, by decide, by decide, fun n8 H8 l8 u8 g8 pp8 => ⟨_, _, rfl, rfl, _, rfl, hk _ _ ⟨g8, pp8⟩⟩⟩
    · rintro H8 ⟨g8, pp8⟩
      refine c_asg (fun v H' => v = .int hot ∧ H' = H8) (fun Kk hk => ⟨_, rfl, hk _ _ ⟨rfl, rfl⟩⟩) ?_
      rintro _ H8 ⟨rfl, rfl⟩
      refine c_if (fun σ' H' => ∃ bx : Int, σ' = [some (.ref a), some (.int k), some (.int m), some (.ref l), some (.bl spread), some (.bl full), some (.int hot), some (.ref la), some (.int (0 + (j : Int))), some (.int bx)] ∧ (0 ≤ bx ∧ bx < (m : Int)) ∧ Grow [a] H7 H' ∧ Pot H' a) ?_ (fun hk => ?_)
      rotate_left
      · refine ⟨_, rfl, _, rfl, ?_⟩
        cases spread with
        | true => exact iteT ⟨_, rfl, _, rfl, _, _, rfl, a, m, rfl, rfl, pp8, by omega, by omega, fun n9 H9 l9 u9 g9 pp9 => hk _ _ ⟨_, rfl, ⟨l9, u9⟩, g8.trans g9, pp9⟩⟩
        | false => exact iteF (hk _ _ ⟨_, rfl, ⟨l3, u3⟩, g8, pp8⟩)
      rintro σ' H10 ⟨bx, rfl, hbx, g10, pp10⟩
      have hA10 := g10.keep _ _ nA hA7
      have hl10 := g10.keep _ _ nl hl7
      refine ⟨_, rfl, .inl ⟨rfl, _, SqL.of hA10⟩, _, rfl, _, rfl, la, _, rfl, .inl (SqL.of hA10), _, _, rfl, rfl, _, _, rfl, a, _, rfl, rfl, pp10, by omega, by omega, fun ix H11 l11 u11 g11 pp11 => ?_⟩
      have hl11 := g11.keep _ _ nl hl10
      obtain ⟨d, hd⟩ : ∃ d, ds[j]? = some d := ⟨_, List.getElem?_eq_getElem (by rw [dl, ← hW]; exact hjW)⟩
      have hdm := List.mem_of_getElem? hd
      refine ⟨_, rfl, _, rfl, _, rfl, _, rfl, l, _, _, .int d, rfl, rfl, SqL.of hl11, atI_map (j := j) (by omega) hd, szl rfl, fun t0 ht0 => ⟨szl rfl, fun t ht => ?_⟩⟩
      have gt0 := Grow.new (m := [a]) ht0 (.tup [.int d, .non, .non])
      have gt := Grow.new (m := [a]) ht (.tup [.int (0 + (j : Int)), .int bx, .ref t0])
      have et0 := gt.tup _ _ (upd_same (H := H11) (a := t0) (o := .tup [.int d, .non, .non]))
      have G := g10.trans (g11.trans (gt0.trans gt))
      have hA13 := G.keep _ _ nA hA7
      have pp13 := (pp11.new ht0 (.tup [.int d, .non, .non])).new ht (.tup [.int (0 + (j : Int)), .int bx, .ref t0])
      have et := upd_same (H := upd H11 t0 (.tup [.int d, .non, .non])) (a := t) (o := .tup [.int (0 + (j : Int)), .int bx, .ref t0])
      generalize upd (upd H11 t0 (.tup [.int d, .non, .non])) t (.tup [.int (0 + (j : Int)), .int bx, .ref t0]) = H13 at gt G hA13 pp13 et et0 ⊢
      have ask : AskAt K H13 (.ref t) ⟨(j : Int), bx, ⟨d, none, none⟩⟩ := ⟨t, t0, rfl, SqT.of (by rw [et, Int.zero_add]), SqT.of et0⟩
      have ixl : ix.toNat ≤ xs.length := by have u11' : ix < (xs.length : Int) + 1 := u11; omega
      refine ⟨la, xs, ix.toNat, .ref t, rfl, by rw [Int.toNat_of_nonneg l11], hA13, ixl, smallR (by omega), ?_⟩
      have gs : Grow [a, la] H13 (upd H13 la (.lst (xs.take ix.toNat ++ [.ref t] ++ xs.drop ix.toNat))) := Grow.set hA13 (by simp) _
      refine ⟨_, _, ks.take ix.toNat ++ [⟨(j : Int), bx, ⟨d, none, none⟩⟩] ++ ks.drop ix.toNat, _, rfl, g7.trans ((G.mono (by simp)).trans gs), ?_, upd_same, gs.allA (AllA.ins ask (G.allA all7)), ?_, S7.ins rfl hbx ok_n (sm_nn (dsm d hdm)), fun c hc => ?_⟩
      · obtain ⟨x0, x1, z1, z2⟩ := pp13
        exact ⟨x0, x1, by rw [upd_ne (Ne.symm naa)]; exact z1, z2⟩
      · rw [List.length_append, List.length_append, List.length_take, List.length_drop]
        show min _ _ + 1 + _ ≤ _
        omega
      · rcases mem_ins43 hc with rfl | hc
        · exact ⟨d, hdm, rfl⟩
        · exact P7 c hc
    · rintro H8 ⟨g8, pp8⟩
      exact ⟨_, _, ks, xs, rfl, g7.trans (g8.mono (by simp)), pp8, g8.keep _ _ nA hA7, g8.allA all7, by omega, S7.next, P7⟩
  · rintro σ H7 ⟨e8, e9, ks, xs, rfl, g7, pp7, hA7, all7, kj, S7, P7⟩
    rw [e1k, Int.toNat_natCast, hW] at kj S7
    refine ⟨_, rfl, la, _, rfl, .inl ⟨SqL.of hA7, fun r1 hr1 => ?_⟩⟩
    have ga := Grow.new (m := [a]) hr1 (.tup xs)
    have G : Grow [a] H H7 := (((G6.mono (by simp)) : Grow [a, la] H H6).trans g7).less fun d hd => by
      simp only [List.mem_cons, List.mem_nil_iff, or_false] at hd
      rcases hd with rfl | rfl
      · exact .inl (by simp)
      · exact .inr hlaH
    exact q (.ref r1) ks _ (G.trans ga) (pp7.new hr1 _) ⟨r1, xs, rfl, SqT.of upd_same, ga.allA all7⟩ (by omega) S7.done (fun c hc => by obtain ⟨d, _, e⟩ := P7 c hc; rw [e]; exact ⟨rfl, rfl⟩) (dok.of43 P7)
theorem sc__law_number : FnScope ["_law_pot_here", "_law_sign", "_law_far", "_law_turn"] ["_law_pot_here"] (defScope (top 48)) := ⟨rfl, rfl, rfl, by decide +kernel, rfl, by decide +kernel, by decide +kernel⟩
set_option maxHeartbeats 0 in
theorem ok__law_number {n : Nat} {f : Addr} {fd : FuncData} (F : Fun K "_law_number" "_law_number" (top 48) f fd) (B : Blt mg) (c__law_take : Callee P w K mg base n "_law_take" ["_law_pot_here", "_law_many"] (sp_take K))    :
    FnOk P w K mg base CX0 (n + 1) f fd ["_law_pot_here"] (sp_num43 K) := by
  refine F.ok sc__law_number sp1_len (fun cdv A outer s H vs Q E hr h => ?_)
  obtain ⟨x, rfl, a, rfl, pp, q⟩ := h
  refine ⟨_, (pss_cons (ps_if (pt_cmpR op_lt (pe_callC c__law_take hr rfl (pa_cons (pv 0) (pa_cons pe_int pa_nil))) pe_int (nomark _)) (pss_one (ps_ret (pe_op op_sub (pe_callC c__law_take hr rfl (pa_cons (pv 0) (pa_cons pe_int pa_nil))) pe_int))) pss_nil) (pss_cons (ps_par (i := 1) (j := 2) rfl sc__law_number.nd rfl rfl (by decide) rfl rfl (pa_cons (pe_op op_sub pe_int (pe_op op_mulG pe_int (pe_callC c__law_take hr rfl (pa_cons (pv 0) (pa_cons pe_int pa_nil))))) (pa_cons pe_int pa_nil)) rfl) (pss_cons (ps_for PassesOwn.never rfl (pi_range1 rfl B.range (pa_cons pe_int pa_nil)) (pg_name (i := 3) sc__law_number.nd rfl (Or.inl rfl)) (pss_one (ps_set (i := 2) sc__law_number.nd rfl (Or.inl rfl) (pe_op op_add (pe_op op_mulG (pv 2) (pe_op op_pow pe_int pe_int)) (pe_callC c__law_take hr rfl (pa_cons (pv 0) (pa_cons (pe_op op_pow pe_int pe_int) pa_nil))))))) (pss_one (ps_ret (pe_op op_mulG (pv 1) (pv 2))))))), ?_⟩
  refine ⟨_, rfl, _, _, rfl, a, 4, rfl, rfl, pp, by decide, by decide, fun c0 H1 l0 u0 g1 pp1 => ⟨_, _, rfl, rfl, _, rfl, ?_⟩⟩
  by_cases c : c0 < 3
  · refine iteT' (decide_eq_true c) ⟨_, rfl, _, _, rfl, a, 19, rfl, rfl, pp1, by decide, by decide, fun n1 H2 l1 u1 g2 pp2 => ⟨_, _, rfl, rfl, q _ _ ?_ ?_ (g1.trans g2) pp2⟩⟩
    · show -(10 ^ 28) < n1 - 9
      omega
    · show n1 - 9 < 10 ^ 28
      omega
  refine iteF' (decide_eq_false c) (c_next ?_)
  refine ⟨_, rfl, _, _, rfl, a, 2, rfl, rfl, pp1, by decide, by decide, fun n2 H2 l2 u2 g2 pp2 => ⟨_, _, rfl, rfl, mulOkL ⟨by decide, by decide⟩, _, _, rfl, rfl, _, _, rfl, ?_⟩⟩
  have G3 : Grow [a] H H2 := g1.trans g2
  refine ⟨_, rfl, by decide, by decide, for_range (fun i σ H' => ∃ far e, σ = [some (.ref a), some (.int (1 - 2 * n2)), some (.int far), e] ∧ Grow [a] H H' ∧ Pot H' a ∧ 0 ≤ far ∧ far < (10 : Int) ^ (7 * i)) ⟨0, none, rfl, G3, pp2, by decide, by decide⟩ ?_ ?_⟩
  · rintro i σ H4 hi ⟨far, e, rfl, g4, pp4, f0, f1⟩
    refine ⟨_, rfl, _, _, rfl, rfl, ⟨by decide, by decide, by decide⟩, _, _, rfl, rfl, mulOkR ⟨by decide, by decide⟩, ?_⟩
    refine ⟨_, rfl, _, _, rfl, rfl, ⟨by decide, by decide, by decide⟩, _, _, rfl, a, _, rfl, rfl, pp4, by decide, by decide, fun n5 H5 l5 u5 g5 pp5 => ?_⟩
    have u5' : n5 < 10 ^ 7 := u5
    refine ⟨_, _, rfl, rfl, _, _, rfl, g4.trans g5, pp5, ?_, ?_⟩
    · show 0 ≤ far * 10 ^ 7 + n5
      omega
    · show far * 10 ^ 7 + n5 < (10 : Int) ^ (7 * (i + 1))
      rw [show 7 * (i + 1) = 7 * i + 7 from by omega, Int.pow_add]
      generalize (10 : Int) ^ (7 * i) = P at f1
      omega
  · rintro σ H4 ⟨far, e, rfl, g4, pp4, f0, f1⟩
    have f2 : far < 10 ^ 28 := f1
    refine ⟨_, rfl, _, rfl, _, _, rfl, rfl, mulOkL ⟨by omega, by omega⟩, q _ _ ?_ ?_ g4 pp4⟩
    · show -(10 ^ 28) < (1 - 2 * n2) * far
      obtain rfl | rfl : n2 = 0 ∨ n2 = 1 := by omega
      · omega
      · omega
    · show (1 - 2 * n2) * far < 10 ^ 28
      obtain rfl | rfl : n2 = 0 ∨ n2 = 1 := by omega
      · omega
      · omega
theorem sc__law_adds : FnScope ["_law_pot_here", "_law_k", "_law_sort_of"] ["_law_pot_here", "_law_k"] (defScope (top 49)) := ⟨rfl, rfl, rfl, by decide +kernel, rfl, by decide +kernel, by decide +kernel⟩
set_option maxHeartbeats 0 in
theorem ok__law_adds {n : Nat} {f : Addr} {fd : FuncData} (F : Fun K "_law_adds" "_law_adds" (top 49) f fd) (B : Blt mg) (c__law_number : Callee P w K mg base n "_law_number" ["_law_pot_here"] (sp_num43 K)) (c__law_take : Callee P w K mg base n "_law_take" ["_law_pot_here", "_law_many"] (sp_take K))    :
    FnOk P w K mg base CX0 (n + 1) f fd ["_law_pot_here", "_law_k"] (sp_adds43 K) := by
  refine F.ok sc__law_adds sp2_len (fun cdv A outer s H vs Q E hr h => ?_)
  obtain ⟨x, y, rfl, a, k, rfl, rfl, k4, pp, q⟩ := h
  refine ⟨_, (pss_cons (ps_set (i := 2) sc__law_adds.nd rfl (Or.inl rfl) (pe_callC c__law_take hr rfl (pa_cons (pv 0) (pa_cons pe_int pa_nil)))) (pss_cons (ps_if (pt_cmpR op_eq (pv 2) pe_int (nomark _)) (pss_one (ps_ret (pe_op op_rep (pe_lst (pa_cons pe_int pa_nil)) (pe_op op_shl pe_int (pv 1))))) pss_nil) (pss_cons (ps_if (pt_cmpR op_eq (pv 2) pe_int (nomark _)) (pss_one (ps_ret (pe_op op_rep (pe_lst (pa_cons (pe_callC c__law_number hr rfl (pa_cons (pv 0) pa_nil)) pa_nil)) (pe_op op_shl pe_int (pv 1))))) pss_nil) (pss_one (ps_ret (pe_compT (CSc.of (N' := ["_law_hand", "_law_pot_here"]) (sub := [none, some 0]) (defScope (top 49)) ["_law_pot_here", "_law_k", "_law_sort_of"] rfl rfl (by decide +kernel) rfl) rfl (pi_range1 rfl B.range (pa_cons (pe_op op_shl pe_int (pv 1)) pa_nil)) (fun _ _ _ _ _ _ => pg_name (i := 0) (show (["_law_hand", "_law_pot_here"] : List Str).Nodup by decide +kernel) rfl (Or.inl rfl)) (fun _ _ _ _ _ _ => pifs_nil) (fun _ _ _ _ _ _ => (pe_op op_add pe_int (pe_callB call_abs rfl B.abs b_abs (pa_cons (pe_callC c__law_number hr rfl (pa_cons (pv 1) pa_nil)) pa_nil)))))))))), ?_⟩
  have p16 := pow16 k4
  obtain ⟨W, hW⟩ : ∃ W : Nat, W = 2 ^ k := ⟨_, rfl⟩
  have e1k : (1 : Int) * 2 ^ ((k : Int)).toNat = W := by rw [one_shl, hW]
  have sz : 1 * W ≤ sizeLine := by rw [Nat.one_mul]; exact Nat.le_of_lt (smallR (by omega))
  refine ⟨_, rfl, _, _, rfl, a, 3, rfl, rfl, pp, by decide, by decide, fun c0 H1 l0 u0 g1 pp1 => ?_⟩
  refine ⟨_, rfl, rfl, _, rfl, ?_⟩
  have npa : ∀ {l : Addr} {H' : Hp}, H' l = none → Pot H' a → l ∉ [a] := fun {l H'} h p z => by
    obtain ⟨x0, x1, z1, _⟩ := p
    rw [List.mem_singleton.mp z, z1] at h; cases h
  by_cases c1 : c0 = 0
  · refine iteT' (decide_eq_true (congrArg V.int c1)) ⟨szl rfl, fun t ht => ⟨_, rfl, _, _, rfl, rfl, shlOne k4, t, _, _, rfl, rfl, upd_same, by rw [e1k]; omega, by rw [e1k]; omega, by rw [e1k]; exact sz, fun l hl => ?_⟩⟩
    have gt := Grow.new (m := [a]) ht (.lst [.int 1])
    have pt := pp1.new ht (.lst [.int 1])
    have G := g1.trans gt
    have nl := npa hl pt
    refine q l (List.replicate W 1) _ (G.free nl hl) (G.trans (Grow.new hl _)) (pt.new hl _) ?_ (by rw [List.length_replicate, hW]) (fun d hd => ?_) (.inr ⟨1, fun d hd => List.eq_of_mem_replicate hd⟩)
    · rw [upd_same, e1k, Int.toNat_natCast, rep_const43]
    · rw [List.eq_of_mem_replicate hd]; exact ⟨by decide, by decide⟩
  refine iteF' (decide_eq_false fun z => c1 (V.int.inj z)) ⟨_, rfl, rfl, _, rfl, ?_⟩
  by_cases c2 : c0 = 1
  · refine iteT' (decide_eq_true (congrArg V.int c2)) ⟨_, rfl, _, rfl, a, rfl, pp1, fun n H2 n1 n2 g2 pp2 => ⟨szl rfl, fun t ht => ⟨_, rfl, _, _, rfl, rfl, shlOne k4, t, _, _, rfl, rfl, upd_same, by rw [e1k]; omega, by rw [e1k]; omega, by rw [e1k]; exact sz, fun l hl => ?_⟩⟩⟩
    have gt := Grow.new (m := [a]) ht (.lst [.int n])
    have pt := pp2.new ht (.lst [.int n])
    have G := g1.trans (g2.trans gt)
    have nl := npa hl pt
    refine q l (List.replicate W n) _ (G.free nl hl) (G.trans (Grow.new hl _)) (pt.new hl _) ?_ (by rw [List.length_replicate, hW]) (fun d hd => ?_) (.inr ⟨n, fun d hd => List.eq_of_mem_replicate hd⟩)
    · rw [upd_same, e1k, Int.toNat_natCast, rep_const43]
    · rw [List.eq_of_mem_replicate hd]; exact ⟨by omega, by omega⟩
  refine iteF' (decide_eq_false fun z => c2 (V.int.inj z)) ?_
  refine ⟨_, rfl, _, _, rfl, rfl, shlOne k4, _, rfl, by rw [e1k]; omega, by rw [e1k]; omega, comp_rng (fun i ys H' => ∃ ds : List Int, ys = ds.map V.int ∧ ds.length = i ∧ (∀ d ∈ ds, 1 ≤ d ∧ d < 10 ^ 29) ∧ Grow [a] H1 H' ∧ Pot H' a) ⟨[], rfl, rfl, (fun v hv => nomatch hv), Grow.refl _ _, pp1⟩ ?_ ?_⟩
  · rintro i ys H2 hi ⟨ds, rfl, dl, db, g2, pp2⟩
    have hiW : i < W := by rw [e1k] at hi; omega
    refine ⟨_, rfl, _, rfl, a, rfl, pp2, fun n H3 n1 n2 g3 pp3 => ⟨_, rfl, _, _, rfl, rfl, smallR (by rw [List.length_map, dl]; omega), ds ++ [1 + (if n < 0 then -n else n)], by rw [List.map_append]; rfl, by rw [List.length_append, dl]; rfl, fun d hd => ?_, g2.trans g3, pp3⟩⟩
    rcases List.mem_append.mp hd with hd | hd
    · exact db d hd
    · rw [List.mem_singleton.mp hd]
      split <;> omega
  · rintro ys H2 ⟨ds, rfl, dl, db, g2, pp2⟩ l hl
    rw [e1k, Int.toNat_natCast] at dl
    have G := g1.trans g2
    exact q l ds _ (G.free (npa hl pp2) hl) (G.trans (Grow.new hl _)) (pp2.new hl _) upd_same (by rw [dl, hW]) (fun d hd => ⟨by have := db d hd; omega, by have := db d hd; omega⟩) (.inl fun d hd => (db d hd).1)
theorem sc__law_pot : FnScope ["_law_script", "_law_place", "_law_cell", "_law_prime"] ["_law_script", "_law_place"] (defScope (top 46)) := ⟨rfl, rfl, rfl, by decide +kernel, rfl, by decide +kernel, by decide +kernel⟩
set_option maxHeartbeats 0 in
theorem ok__law_pot {n : Nat} {f : Addr} {fd : FuncData} (F : Fun K "_law_pot" "_law_pot" (top 46) f fd) (B : Blt mg)     :
    FnOk P w K mg base CX0 (n + 1) f fd ["_law_script", "_law_place"] (sp_pot K) := by
  refine F.ok sc__law_pot sp2_len (fun cdv A outer s H vs Q E hr h => ?_)
  obtain ⟨x, y, rfl, a, ns, k, rfl, rfl, hs, k0, k1, q⟩ := h
  refine ⟨_, (pss_cons (ps_set (i := 2) sc__law_pot.nd rfl (Or.inl rfl) pe_int) (pss_cons (ps_if (pt_cmpR op_lt (pv 1) (pe_callB call_len_seq rfl B.len b_len (pa_cons (pv 0) pa_nil)) (nomark _)) (pss_one (ps_set (i := 2) sc__law_pot.nd rfl (Or.inl rfl) (pe_ix ix_list (pv 0) (pv 1) (fun _ _ => rfl)))) pss_nil) (pss_cons (ps_set (i := 3) sc__law_pot.nd rfl (Or.inl rfl) (pe_ix ix_list (pe_lst (pa_cons pe_int (pa_cons pe_int (pa_cons pe_int (pa_cons pe_int pa_nil))))) (pe_op op_mod (pv 1) pe_int) (fun _ _ => rfl))) (pss_one (ps_ret (pe_lst (pa_cons (pe_callB (call_max2 rfl) rfl B.max b_max (pa_cons pe_int (pa_cons (pe_op op_sub (pe_callB call_abs rfl B.abs b_abs (pa_cons (pv 2) pa_nil)) (pe_op op_pow pe_int pe_int)) pa_nil))) (pa_cons (pe_op op_add (pe_op op_add (pe_op op_mod (pe_callB call_abs rfl B.abs b_abs (pa_cons (pv 2) pa_nil)) (pv 3)) (pe_op op_mulG pe_int (pv 1))) pe_int) pa_nil)))))))), ?_⟩
  obtain ⟨qq, hq, q0, q1⟩ : ∃ qq : Int, atI [V.int 2147483587, .int 2147483579, .int 2147483563, .int 2147483549] (k % 4) = some (V.int qq) ∧ 0 < qq ∧ qq < 2147483648 := by
    obtain h | h | h | h : k % 4 = 0 ∨ k % 4 = 1 ∨ k % 4 = 2 ∨ k % 4 = 3 := by omega
    all_goals (rw [h]; exact ⟨_, rfl, by decide, by decide⟩)
  have hl : (ns.map V.int).length = ns.length := List.length_map ..
  refine ⟨_, rfl, _, rfl, a, _, rfl, .inl hs.sq, _, _, rfl, rfl, _, rfl, ?_⟩
  by_cases c : k < ((ns.map V.int).length : Int)
  · refine iteT' (decide_eq_true c) ?_
    have hj : k.toNat < ns.length := by omega
    refine ⟨_, rfl, _, rfl, a, _, _, V.int ns[k.toNat], rfl, rfl, hs.sq, ixGet (ixN_nat k0 (by omega)) (by rw [List.getElem?_map, List.getElem?_eq_getElem hj]; rfl), ?_⟩
    refine ⟨szl rfl, fun lp hlp => ?_⟩
    refine ⟨_, rfl, _, _, rfl, rfl, (by show (0 : Int) < 4; decide), lp, _, _, _, rfl, rfl, SqL.of upd_same, hq, ?_⟩
    have g0 := Grow.new (m := []) hlp (.lst [V.int 2147483587, .int 2147483579, .int 2147483563, .int 2147483549])
    refine ⟨_, rfl, _, rfl, _, _, rfl, rfl, ⟨by decide, by decide, by decide⟩, _, _, rfl, rfl, _, _, rfl, ?_⟩
    refine ⟨_, rfl, _, rfl, _, rfl, _, _, rfl, rfl, q0, _, rfl, _, _, rfl, rfl, mulOkL ⟨by decide, by decide⟩, _, _, rfl, rfl, _, _, rfl, rfl, szl rfl, fun p hp => ?_⟩
    refine q p _ (g0.free (by simp) hp) (g0.trans (Grow.new hp _)) ⟨_, _, upd_same, ?_⟩
    split <;> omega
  · refine iteF' (decide_eq_false c) ?_
    refine ⟨szl rfl, fun lp hlp => ?_⟩
    refine ⟨_, rfl, _, _, rfl, rfl, (by show (0 : Int) < 4; decide), lp, _, _, _, rfl, rfl, SqL.of upd_same, hq, ?_⟩
    have g0 := Grow.new (m := []) hlp (.lst [V.int 2147483587, .int 2147483579, .int 2147483563, .int 2147483549])
    refine ⟨_, rfl, _, rfl, _, _, rfl, rfl, ⟨by decide, by decide, by decide⟩, _, _, rfl, rfl, _, _, rfl, ?_⟩
    refine ⟨_, rfl, _, rfl, _, rfl, _, _, rfl, rfl, q0, _, rfl, _, _, rfl, rfl, mulOkL ⟨by decide, by decide⟩, _, _, rfl, rfl, _, _, rfl, rfl, szl rfl, fun p hp => ?_⟩
    refine q p _ (g0.free (by simp) hp) (g0.trans (Grow.new hp _)) ⟨_, _, upd_same, ?_⟩
    split <;> omega
theorem sc_law : FnScope ["_law_script", "_law_place", "_law_pot_here", "_law_k", "_law_board", "_law_asks_here", "_law_turn"] ["_law_script"] (defScope (top 55)) := ⟨rfl, rfl, rfl, by decide +kernel, rfl, by decide +kernel, by decide +kernel⟩
set_option maxHeartbeats 0 in
theorem ok_law {n : Nat} {f : Addr} {fd : FuncData} (F : Fun K "law" "law" (top 55) f fd) (B : Blt mg) (c__law_is_right : Callee P w K mg base n "_law_is_right" ["_law_board", "_law_asks_here", "_law_told"] (sp_right43 K)) (c_one_round : Callee P w K mg base n "one_round" ["k", "board", "asks", "firsts"] (sp_round41 K)) (c__law_firsts : Callee P w K mg base n "_law_firsts" ["_law_pot_here", "_law_k"] (sp_firsts K)) (c__law_asks : Callee P w K mg base n "_law_asks" ["_law_pot_here", "_law_k", "_law_many", "_law_adds_here"] (sp_asks43 K)) (c__law_adds : Callee P w K mg base n "_law_adds" ["_law_pot_here", "_law_k"] (sp_adds43 K)) (c__law_take : Callee P w K mg base n "_law_take" ["_law_pot_here", "_law_many"] (sp_take K)) (c__law_number : Callee P w K mg base n "_law_number" ["_law_pot_here"] (sp_num43 K)) (c__law_pot : Callee P w K mg base n "_law_pot" ["_law_script", "_law_place"] (sp_pot K))    :
    FnOk P w K mg base CX0 (n + 1) f fd ["_law_script"] (sp_law K) := by
  refine F.ok sc_law sp1_len (fun cdv A outer s H vs Q E hr h => ?_)
  obtain ⟨x, rfl, a, ns, rfl, hs, h63, q⟩ := h
  refine ⟨_, (pss_cons (ps_for PassesOwn.never rfl (pi_range1 rfl B.range (pa_cons (pe_callB (call_max2 rfl) rfl B.max b_max (pa_cons pe_int (pa_cons (pe_callB (call_min2 rfl) rfl B.min b_min (pa_cons pe_int (pa_cons (pe_callB call_len_seq rfl B.len b_len (pa_cons (pv 0) pa_nil)) pa_nil))) pa_nil))) pa_nil)) (pg_name (i := 1) sc_law.nd rfl (Or.inl rfl)) (pss_cons (ps_set (i := 2) sc_law.nd rfl (Or.inr rfl) (pe_callC c__law_pot hr rfl (pa_cons (pv 0) (pa_cons (pv 1) pa_nil)))) (pss_cons (ps_set (i := 3) sc_law.nd rfl (Or.inl rfl) (pe_callC c__law_take hr rfl (pa_cons (pv 2) (pa_cons pe_int pa_nil)))) (pss_cons (ps_set (i := 4) sc_law.nd rfl (Or.inl rfl) (pe_callTy call_tuple_of rfl B.tuple b_tuple (pa_cons (pe_compT (CSc.of (N' := ["_law_box", "_law_pot_here"]) (sub := [none, some 2]) (defScope (top 55)) ["_law_script", "_law_place", "_law_pot_here", "_law_k", "_law_board", "_law_asks_here", "_law_turn"] rfl rfl (by decide +kernel) rfl) rfl (pi_range1 rfl B.range (pa_cons (pe_op op_add pe_int (pe_callC c__law_take hr rfl (pa_cons (pv 2) (pa_cons pe_int pa_nil)))) pa_nil)) (fun _ _ _ _ _ _ => pg_name (i := 0) (show (["_law_box", "_law_pot_here"] : List Str).Nodup by decide +kernel) rfl (Or.inl rfl)) (fun _ _ _ _ _ _ => pifs_nil) (fun _ _ _ _ _ _ => (pe_callC c__law_number hr rfl (pa_cons (pv 1) pa_nil)))) pa_nil))) (pss_cons (ps_set (i := 5) sc_law.nd rfl (Or.inl rfl) (pe_callC c__law_asks hr rfl (pa_cons (pv 2) (pa_cons (pv 3) (pa_cons (pe_callB call_len_seq rfl B.len b_len (pa_cons (pv 4) pa_nil)) (pa_cons (pe_callC c__law_adds hr rfl (pa_cons (pv 2) (pa_cons (pv 3) pa_nil))) pa_nil)))))) (pss_one (ps_for PassesOwn.never rfl (pi_range1 rfl B.range (pa_cons pe_int pa_nil)) (pg_name (i := 6) sc_law.nd rfl (Or.inl rfl)) (pss_one (ps_if (pt_not (pt_val (pe_callC c__law_is_right hr rfl (pa_cons (pv 4) (pa_cons (pv 5) (pa_cons (pe_callC c_one_round hr rfl (pa_cons (pv 3) (pa_cons (pv 4) (pa_cons (pv 5) (pa_cons (pe_callC c__law_firsts hr rfl (pa_cons (pv 2) (pa_cons (pv 3) pa_nil))) pa_nil))))) pa_nil)))))) (pss_one (ps_ret pe_bl)) pss_nil))))))))) (pss_one (ps_ret pe_bl))), ?_⟩
  have hl : (ns.map V.int).length = ns.length := List.length_map ..
  refine ⟨_, rfl, a, _, rfl, .inl hs.sq, _, _, rfl, _, _, rfl, _, rfl, ?_, ?_, ?_⟩
  · split <;> split <;> omega
  · rw [hl]; split <;> split <;> omega
  refine for_range (fun i σ H' => ∃ (e1 e2 e3 e4 e5 e6 : Option V), σ = [some (.ref a), e1, e2, e3, e4, e5, e6] ∧ Grow [] H H') ⟨_, _, _, _, _, _, rfl, Grow.refl _ _⟩ ?_ ?_
  rotate_left
  · rintro σ H1 _
    exact q _
  rintro i σ H1 hi ⟨e1, e2, e3, e4, e5, e6, rfl, g⟩
  have i63 : i < 1000 := by
    have hi' := hi
    revert hi'
    split <;> split <;> omega
  try dsimp only
  refine c_asg (fun v H' => ∃ p, v = .ref p ∧ H1 p = none ∧ Grow [] H1 H' ∧ Pot H' p) (fun Kk hk => ⟨_, rfl, _, rfl, _, _, rfl, a, ns, _, rfl, rfl, g.scr hs, by omega, by omega, fun p H2 hp g2 pp => hk _ _ ⟨p, rfl, hp, g2, pp⟩⟩) ?_
  rintro _ H2 ⟨p, rfl, np, g2, pp2⟩
  refine c_asg (fun v H' => ∃ k : Nat, v = .int k ∧ k ≤ 4 ∧ Grow [p] H2 H' ∧ Pot H' p) (fun Kk hk => ⟨_, rfl, _, _, rfl, p, 5, rfl, rfl, pp2, by decide, by decide, fun t H' t0 t1 g pp' => hk _ _ ⟨t.toNat, congrArg V.int (by omega), by omega, g, pp'⟩⟩) ?_
  rintro _ H3 ⟨k, rfl, k4, g3, pp3⟩
  refine c_asg (fun v H' => ∃ b, BoardAt K H' v b ∧ 1 ≤ b.length ∧ b.length ≤ 16 ∧ Grow [p] H3 H' ∧ Pot H' p) (fun Kk hk => ⟨_, rfl, _, _, rfl, p, 16, rfl, rfl, pp3, by decide, by decide, fun t H4 t0 t1 g4 pp4 => ⟨_, _, rfl, rfl, _, rfl, ?_, ?_, comp_rng (fun i ys H' => ∃ b : List Int, ys = b.map V.int ∧ b.length = i ∧ Grow [p] H4 H' ∧ Pot H' p) ⟨[], rfl, rfl, Grow.refl _ _, pp4⟩ ?_ ?_⟩⟩) ?_
  · omega
  · omega
  · rintro i ys H5 hi ⟨b, rfl, bl, g5, pp5⟩
    exact ⟨_, rfl, _, rfl, p, rfl, pp5, fun n H6 n1 n2 g6 pp6 => ⟨smallR (by rw [List.length_map, bl]; omega), b ++ [n], by rw [List.map_append]; rfl, by rw [List.length_append, bl]; rfl, g5.trans g6, pp6⟩⟩
  · rintro ys H5 ⟨b, rfl, bl, g5, pp5⟩ l hl'
    have g6 := Grow.new (m := [p]) hl' (.lst (b.map V.int))
    refine ⟨l, _, rfl, .inl ⟨SqL.of upd_same, fun r hr' => hk _ _ ⟨b, ⟨r, rfl, SqT.of upd_same⟩, by omega, by omega, g4.trans (g5.trans (g6.trans (Grow.new hr' _))), (pp5.new hl' _).new hr' _⟩⟩⟩
  rintro yb H4 ⟨b, hb4, b1, b16, g4, pp4⟩
  obtain ⟨rb, rfl, hrb⟩ := hb4
  have lb : (b.map V.int).length = b.length := List.length_map ..
  refine c_asg (fun v H' => ∃ ks, AsksAt K H' v ks ∧ ks.length ≤ 16 ∧ RndOk k b.length ks ∧ Adds ks ∧ AddsOk (ks.map (·.deed.add)) ∧ Grow [p] H4 H' ∧ Pot H' p) (fun Kk hk => ⟨_, rfl, _, rfl, _, rfl, rb, _, rfl, .inr hrb, _, rfl, _, rfl, _, _, rfl, p, k, rfl, rfl, k4, pp4, fun l ds H5 hl5 g5 pp5 hd5 dl dsm dok => ⟨_, _, _, _, rfl, p, k, b.length, l, ds, rfl, rfl, by rw [lb], rfl, k4, b1, b16, pp5, ?_, hd5, dl, dsm, dok, fun y ks H6 g6 pp6 h1 h2 h3 h4 h5 => hk _ _ ⟨ks, h1, h2, h3, h4, h5, g5.trans g6, pp6⟩⟩⟩) ?_
  · intro z
    obtain ⟨x0, x1, z1, _⟩ := pp4
    rw [z, z1] at hl5; cases hl5
  rintro ya H5 ⟨ks, ha5, k16, R, PA, dok, g5, pp5⟩
  have hb5 : BoardAt K H5 (.ref rb) b := ⟨rb, rfl, g5.sqT hrb⟩
  have G5 : Grow [p] H1 H5 := g2.wk.trans (g3.trans (g4.trans g5))
  refine ⟨_, rfl, by decide, by decide, for_range (fun j σ H' => ∃ (e6 : Option V), σ = [some (.ref a), some (.int (0 + (i : Int))), some (.ref p), some (.int k), some (.ref rb), some ya, e6] ∧ Grow [p] H5 H' ∧ Pot H' p) ⟨_, rfl, Grow.refl _ _, pp5⟩ ?_ ?_⟩
  · rintro j σ H6 hj ⟨e6, rfl, g6, pp6⟩
    refine ⟨_, rfl, _, rfl, _, rfl, _, rfl, _, rfl, _, rfl, _, rfl, _, _, rfl, p, k, rfl, rfl, k4, pp6, fun yr rows H7 g7 pp7 hR7 hset => ?_⟩
    have G7 := g6.trans g7
    refine ⟨_, _, _, _, rfl, k, b, ks, rows, rfl, k4, G7.board hb5, b1, b16, G7.asks ha5, k16, R, hR7, hset, fun yt H8 g8 h8 => ?_⟩
    have G8 := G7.trans g8.wk
    refine ⟨_, _, _, rfl, k, b, ks, rows, k4, G8.board hb5, b1, b16, G8.asks ha5, k16, R, hset, PA, dok, h8, fun H9 g9 => ⟨_, rfl, iteF ?_⟩⟩
    exact ⟨_, rfl, G8.trans g9.wk, (pp7.grow g8).grow g9⟩
  · rintro σ H6 ⟨e6, rfl, g6, pp6⟩
    exact ⟨_, _, _, _, _, _, rfl, g.trans ((G5.trans g6).shrink np)⟩
end
theorem my_len1 : ∀ {us : List Value}, us.length = 1 → ∃ x0, us = [x0]
  | [x0], _ => ⟨x0, rfl⟩
theorem my_len2 : ∀ {us : List Value}, us.length = 2 → ∃ x0, ∃ x1, us = [x0, x1]
  | [x0, x1], _ => ⟨x0, x1, rfl⟩
theorem my_len3 : ∀ {us : List Value}, us.length = 3 → ∃ x0, ∃ x1, ∃ x2, us = [x0, x1, x2]
  | [x0, x1, x2], _ => ⟨x0, x1, x2, rfl⟩
theorem my_len4 : ∀ {us : List Value}, us.length = 4 → ∃ x0, ∃ x1, ∃ x2, ∃ x3, us = [x0, x1, x2, x3]
  | [x0, x1, x2, x3], _ => ⟨x0, x1, x2, x3, rfl⟩
theorem my_len6 : ∀ {us : List Value}, us.length = 6 → ∃ x0, ∃ x1, ∃ x2, ∃ x3, ∃ x4, ∃ x5, us = [x0, x1, x2, x3, x4, x5]
  | [x0, x1, x2, x3, x4, x5], _ => ⟨x0, x1, x2, x3, x4, x5, rfl⟩
set_option maxHeartbeats 0 in
theorem all_mk {l : PySem.W.OpenLaw} {w : World} {K : PySem.W.Frag} {h : Heap} {mg : Str → Option Value} {fa f1 f2 f3 f4 f5 f6 f7 f8 f9 f10 f11 f12 f13 f14 f15 f16 f17 f18 f19 f20 f21 f22 f23 f24 f25 f26 f27 f28 f29 f30 f31 f32 f33 f34 f35 f36 f37 f38 f39 : Addr} (X : K.In h) (G : h.Ns mainGlobals mg) (hfa : mg "law" = some (.ref fa))
    {od1 an1 od2 an2 od3 an3 od4 an4 od5 an5 od6 an6 od7 an7 od8 an8 od9 an9 od10 an10 od11 an11 od12 an12 od13 an13 od14 an14 od15 an15 od16 an16 od17 an17 od18 an18 od19 an19 od20 an20 od21 an21 od22 an22 od23 an23 od24 an24 od25 an25 od26 an26 od27 an27 od28 an28 od29 an29 od30 an30 od31 an31 od32 an32 od33 an33 od34 an34 od35 an35 od36 an36 od37 an37 od38 an38 od39 an39 : Option Addr} {sl1 sl2 sl3 sl4 sl5 sl6 sl7 sl8 sl9 sl10 sl11 sl12 sl13 sl14 sl15 sl16 sl17 sl18 sl19 sl20 sl21 sl22 sl23 sl24 sl25 sl26 sl27 sl28 sl29 sl30 sl31 sl32 sl33 sl34 sl35 sl36 sl37 sl38 sl39 : Array (Option Value)} {oc1 kV1 dc1 pm1 cd1 ct1 oc2 kV2 dc2 pm2 cd2 ct2 oc3 kV3 dc3 pm3 cd3 ct3 oc4 kV4 dc4 pm4 cd4 ct4 oc5 kV5 dc5 pm5 cd5 ct5 oc6 kV6 dc6 pm6 cd6 ct6 oc7 kV7 dc7 pm7 cd7 ct7 oc8 kV8 dc8 pm8 cd8 ct8 oc9 kV9 dc9 pm9 cd9 ct9 oc10 kV10 dc10 pm10 cd10 ct10 oc11 kV11 dc11 pm11 cd11 ct11 oc12 kV12 dc12 pm12 cd12 ct12 oc13 kV13 dc13 pm13 cd13 ct13 oc14 kV14 dc14 pm14 cd14 ct14 oc15 kV15 dc15 pm15 cd15 ct15 oc16 kV16 dc16 pm16 cd16 ct16 oc17 kV17 dc17 pm17 cd17 ct17 oc18 kV18 dc18 pm18 cd18 ct18 oc19 kV19 dc19 pm19 cd19 ct19 oc20 kV20 dc20 pm20 cd20 ct20 oc21 kV21 dc21 pm21 cd21 ct21 oc22 kV22 dc22 pm22 cd22 ct22 oc23 kV23 dc23 pm23 cd23 ct23 oc24 kV24 dc24 pm24 cd24 ct24 oc25 kV25 dc25 pm25 cd25 ct25 oc26 kV26 dc26 pm26 cd26 ct26 oc27 kV27 dc27 pm27 cd27 ct27 oc28 kV28 dc28 pm28 cd28 ct28 oc29 kV29 dc29 pm29 cd29 ct29 oc30 kV30 dc30 pm30 cd30 ct30 oc31 kV31 dc31 pm31 cd31 ct31 oc32 kV32 dc32 pm32 cd32 ct32 oc33 kV33 dc33 pm33 cd33 ct33 oc34 kV34 dc34 pm34 cd34 ct34 oc35 kV35 dc35 pm35 cd35 ct35 oc36 kV36 dc36 pm36 cd36 ct36 oc37 kV37 dc37 pm37 cd37 ct37 oc38 kV38 dc38 pm38 cd38 ct38 oc39 kV39 dc39 pm39 cd39 ct39 : Value}
    (a1 : PySem.W.nsIn K mainGlobals "_law_runs_on" = some (some (.ref f1))) (l1 : K.lookup f1 = some ⟨oc1, od1, .func (PySem.W.fnOf "_law_runs_on" "_law_runs_on" (defArgs (top 53)) (defBody (top 53)) (defScope (top 53)) .none kV1 dc1 pm1 an1 cd1 ct1), sl1⟩) (c1 : PySem.W.codeIn K cd1 "_law_runs_on" = true) (k1 : PySem.W.keepIn K (.ref f1) = true)
    (a2 : PySem.W.nsIn K mainGlobals "_law_are_whole" = some (some (.ref f2))) (l2 : K.lookup f2 = some ⟨oc2, od2, .func (PySem.W.fnOf "_law_are_whole" "_law_are_whole" (defArgs (top 52)) (defBody (top 52)) (defScope (top 52)) .none kV2 dc2 pm2 an2 cd2 ct2), sl2⟩) (c2 : PySem.W.codeIn K cd2 "_law_are_whole" = true) (k2 : PySem.W.keepIn K (.ref f2) = true)
    (a3 : PySem.W.nsIn K mainGlobals "_law_is_right" = some (some (.ref f3))) (l3 : K.lookup f3 = some ⟨oc3, od3, .func (PySem.W.fnOf "_law_is_right" "_law_is_right" (defArgs (top 54)) (defBody (top 54)) (defScope (top 54)) .none kV3 dc3 pm3 an3 cd3 ct3), sl3⟩) (c3 : PySem.W.codeIn K cd3 "_law_is_right" = true) (k3 : PySem.W.keepIn K (.ref f3) = true)
    (a4 : PySem.W.nsIn K mainGlobals "made" = some (some (.ref f4))) (l4 : K.lookup f4 = some ⟨oc4, od4, .func (PySem.W.fnOf "made" "made" (defArgs (top 13)) (defBody (top 13)) (defScope (top 13)) .none kV4 dc4 pm4 an4 cd4 ct4), sl4⟩) (c4 : PySem.W.codeIn K cd4 "made" = true) (k4 : PySem.W.keepIn K (.ref f4) = true)
    (a5 : PySem.W.nsIn K mainGlobals "figure" = some (some (.ref f5))) (l5 : K.lookup f5 = some ⟨oc5, od5, .func (PySem.W.fnOf "figure" "figure" (defArgs (top 28)) (defBody (top 28)) (defScope (top 28)) .none kV5 dc5 pm5 an5 cd5 ct5), sl5⟩) (c5 : PySem.W.codeIn K cd5 "figure" = true) (k5 : PySem.W.keepIn K (.ref f5) = true)
    (a6 : PySem.W.nsIn K mainGlobals "with_figure" = some (some (.ref f6))) (l6 : K.lookup f6 = some ⟨oc6, od6, .func (PySem.W.fnOf "with_figure" "with_figure" (defArgs (top 29)) (defBody (top 29)) (defScope (top 29)) .none kV6 dc6 pm6 an6 cd6 ct6), sl6⟩) (c6 : PySem.W.codeIn K cd6 "with_figure" = true) (k6 : PySem.W.keepIn K (.ref f6) = true)
    (a7 : PySem.W.nsIn K mainGlobals "switch_at" = some (some (.ref f7))) (l7 : K.lookup f7 = some ⟨oc7, od7, .func (PySem.W.fnOf "switch_at" "switch_at" (defArgs (top 31)) (defBody (top 31)) (defScope (top 31)) .none kV7 dc7 pm7 an7 cd7 ct7), sl7⟩) (c7 : PySem.W.codeIn K cd7 "switch_at" = true) (k7 : PySem.W.keepIn K (.ref f7) = true)
    (a8 : PySem.W.nsIn K mainGlobals "in_order" = some (some (.ref f8))) (l8 : K.lookup f8 = some ⟨oc8, od8, .func (PySem.W.fnOf "in_order" "in_order" (defArgs (top 40)) (defBody (top 40)) (defScope (top 40)) .none kV8 dc8 pm8 an8 cd8 ct8), sl8⟩) (c8 : PySem.W.codeIn K cd8 "in_order" = true) (k8 : PySem.W.keepIn K (.ref f8) = true)
    (a9 : PySem.W.nsIn K mainGlobals "onward" = some (some (.ref f9))) (l9 : K.lookup f9 = some ⟨oc9, od9, .func (PySem.W.fnOf "onward" "onward" (defArgs (top 30)) (defBody (top 30)) (defScope (top 30)) .none kV9 dc9 pm9 an9 cd9 ct9), sl9⟩) (c9 : PySem.W.codeIn K cd9 "onward" = true) (k9 : PySem.W.keepIn K (.ref f9) = true)
    (a10 : PySem.W.nsIn K mainGlobals "side_for" = some (some (.ref f10))) (l10 : K.lookup f10 = some ⟨oc10, od10, .func (PySem.W.fnOf "side_for" "side_for" (defArgs (top 38)) (defBody (top 38)) (defScope (top 38)) .none kV10 dc10 pm10 an10 cd10 ct10), sl10⟩) (c10 : PySem.W.codeIn K cd10 "side_for" = true) (k10 : PySem.W.keepIn K (.ref f10) = true)
    (a11 : PySem.W.nsIn K mainGlobals "share_stage" = some (some (.ref f11))) (l11 : K.lookup f11 = some ⟨oc11, od11, .func (PySem.W.fnOf "share_stage" "share_stage" (defArgs (top 43)) (defBody (top 43)) (defScope (top 43)) .none kV11 dc11 pm11 an11 cd11 ct11), sl11⟩) (c11 : PySem.W.codeIn K cd11 "share_stage" = true) (k11 : PySem.W.keepIn K (.ref f11) = true)
    (a12 : PySem.W.nsIn K mainGlobals "tidy" = some (some (.ref f12))) (l12 : K.lookup f12 = some ⟨oc12, od12, .func (PySem.W.fnOf "tidy" "tidy" (defArgs (top 14)) (defBody (top 14)) (defScope (top 14)) .none kV12 dc12 pm12 an12 cd12 ct12), sl12⟩) (c12 : PySem.W.codeIn K cd12 "tidy" = true) (k12 : PySem.W.keepIn K (.ref f12) = true)
    (a13 : PySem.W.nsIn K mainGlobals "joined" = some (some (.ref f13))) (l13 : K.lookup f13 = some ⟨oc13, od13, .func (PySem.W.fnOf "joined" "joined" (defArgs (top 15)) (defBody (top 15)) (defScope (top 15)) .none kV13 dc13 pm13 an13 cd13 ct13), sl13⟩) (c13 : PySem.W.codeIn K cd13 "joined" = true) (k13 : PySem.W.keepIn K (.ref f13) = true)
    (a14 : PySem.W.nsIn K mainGlobals "pass_stage" = some (some (.ref f14))) (l14 : K.lookup f14 = some ⟨oc14, od14, .func (PySem.W.fnOf "pass_stage" "pass_stage" (defArgs (top 41)) (defBody (top 41)) (defScope (top 41)) .none kV14 dc14 pm14 an14 cd14 ct14), sl14⟩) (c14 : PySem.W.codeIn K cd14 "pass_stage" = true) (k14 : PySem.W.keepIn K (.ref f14) = true)
    (a15 : PySem.W.nsIn K mainGlobals "pass_net" = some (some (.ref f15))) (l15 : K.lookup f15 = some ⟨oc15, od15, .func (PySem.W.fnOf "pass_net" "pass_net" (defArgs (top 42)) (defBody (top 42)) (defScope (top 42)) .none kV15 dc15 pm15 an15 cd15 ct15), sl15⟩) (c15 : PySem.W.codeIn K cd15 "pass_net" = true) (k15 : PySem.W.keepIn K (.ref f15) = true)
    (a16 : PySem.W.nsIn K mainGlobals "is_whole" = some (some (.ref f16))) (l16 : K.lookup f16 = some ⟨oc16, od16, .func (PySem.W.fnOf "is_whole" "is_whole" (defArgs (top 8)) (defBody (top 8)) (defScope (top 8)) .none kV16 dc16 pm16 an16 cd16 ct16), sl16⟩) (c16 : PySem.W.codeIn K cd16 "is_whole" = true) (k16 : PySem.W.keepIn K (.ref f16) = true)
    (a17 : PySem.W.nsIn K mainGlobals "is_within" = some (some (.ref f17))) (l17 : K.lookup f17 = some ⟨oc17, od17, .func (PySem.W.fnOf "is_within" "is_within" (defArgs (top 9)) (defBody (top 9)) (defScope (top 9)) .none kV17 dc17 pm17 an17 cd17 ct17), sl17⟩) (c17 : PySem.W.codeIn K cd17 "is_within" = true) (k17 : PySem.W.keepIn K (.ref f17) = true)
    (a18 : PySem.W.nsIn K mainGlobals "switches_in_a_stage" = some (some (.ref f18))) (l18 : K.lookup f18 = some ⟨oc18, od18, .func (PySem.W.fnOf "switches_in_a_stage" "switches_in_a_stage" (defArgs (top 33)) (defBody (top 33)) (defScope (top 33)) .none kV18 dc18 pm18 an18 cd18 ct18), sl18⟩) (c18 : PySem.W.codeIn K cd18 "switches_in_a_stage" = true) (k18 : PySem.W.keepIn K (.ref f18) = true)
    (a19 : PySem.W.nsIn K mainGlobals "are_marks" = some (some (.ref f19))) (l19 : K.lookup f19 = some ⟨oc19, od19, .func (PySem.W.fnOf "are_marks" "are_marks" (defArgs (top 34)) (defBody (top 34)) (defScope (top 34)) .none kV19 dc19 pm19 an19 cd19 ct19), sl19⟩) (c19 : PySem.W.codeIn K cd19 "are_marks" = true) (k19 : PySem.W.keepIn K (.ref f19) = true)
    (a20 : PySem.W.nsIn K mainGlobals "need_net" = some (some (.ref f20))) (l20 : K.lookup f20 = some ⟨oc20, od20, .func (PySem.W.fnOf "need_net" "need_net" (defArgs (top 26)) (defBody (top 26)) (defScope (top 26)) .none kV20 dc20 pm20 an20 cd20 ct20), sl20⟩) (c20 : PySem.W.codeIn K cd20 "need_net" = true) (k20 : PySem.W.keepIn K (.ref f20) = true)
    (a21 : PySem.W.nsIn K mainGlobals "is_settings" = some (some (.ref f21))) (l21 : K.lookup f21 = some ⟨oc21, od21, .func (PySem.W.fnOf "is_settings" "is_settings" (defArgs (top 35)) (defBody (top 35)) (defScope (top 35)) .none kV21 dc21 pm21 an21 cd21 ct21), sl21⟩) (c21 : PySem.W.codeIn K cd21 "is_settings" = true) (k21 : PySem.W.keepIn K (.ref f21) = true)
    (a22 : PySem.W.nsIn K mainGlobals "need_settings" = some (some (.ref f22))) (l22 : K.lookup f22 = some ⟨oc22, od22, .func (PySem.W.fnOf "need_settings" "need_settings" (defArgs (top 36)) (defBody (top 36)) (defScope (top 36)) .none kV22 dc22 pm22 an22 cd22 ct22), sl22⟩) (c22 : PySem.W.codeIn K cd22 "need_settings" = true) (k22 : PySem.W.keepIn K (.ref f22) = true)
    (a23 : PySem.W.nsIn K mainGlobals "is_line" = some (some (.ref f23))) (l23 : K.lookup f23 = some ⟨oc23, od23, .func (PySem.W.fnOf "is_line" "is_line" (defArgs (top 27)) (defBody (top 27)) (defScope (top 27)) .none kV23 dc23 pm23 an23 cd23 ct23), sl23⟩) (c23 : PySem.W.codeIn K cd23 "is_line" = true) (k23 : PySem.W.keepIn K (.ref f23) = true)
    (a24 : PySem.W.nsIn K mainGlobals "is_end" = some (some (.ref f24))) (l24 : K.lookup f24 = some ⟨oc24, od24, .func (PySem.W.fnOf "is_end" "is_end" (defArgs (top 11)) (defBody (top 11)) (defScope (top 11)) .none kV24 dc24 pm24 an24 cd24 ct24), sl24⟩) (c24 : PySem.W.codeIn K cd24 "is_end" = true) (k24 : PySem.W.keepIn K (.ref f24) = true)
    (a25 : PySem.W.nsIn K mainGlobals "is_deed" = some (some (.ref f25))) (l25 : K.lookup f25 = some ⟨oc25, od25, .func (PySem.W.fnOf "is_deed" "is_deed" (defArgs (top 12)) (defBody (top 12)) (defScope (top 12)) .none kV25 dc25 pm25 an25 cd25 ct25), sl25⟩) (c25 : PySem.W.codeIn K cd25 "is_deed" = true) (k25 : PySem.W.keepIn K (.ref f25) = true)
    (a26 : PySem.W.nsIn K mainGlobals "is_ask" = some (some (.ref f26))) (l26 : K.lookup f26 = some ⟨oc26, od26, .func (PySem.W.fnOf "is_ask" "is_ask" (defArgs (top 21)) (defBody (top 21)) (defScope (top 21)) .none kV26 dc26 pm26 an26 cd26 ct26), sl26⟩) (c26 : PySem.W.codeIn K cd26 "is_ask" = true) (k26 : PySem.W.keepIn K (.ref f26) = true)
    (a27 : PySem.W.nsIn K mainGlobals "is_board" = some (some (.ref f27))) (l27 : K.lookup f27 = some ⟨oc27, od27, .func (PySem.W.fnOf "is_board" "is_board" (defArgs (top 19)) (defBody (top 19)) (defScope (top 19)) .none kV27 dc27 pm27 an27 cd27 ct27), sl27⟩) (c27 : PySem.W.codeIn K cd27 "is_board" = true) (k27 : PySem.W.keepIn K (.ref f27) = true)
    (a28 : PySem.W.nsIn K mainGlobals "need_board" = some (some (.ref f28))) (l28 : K.lookup f28 = some ⟨oc28, od28, .func (PySem.W.fnOf "need_board" "need_board" (defArgs (top 20)) (defBody (top 20)) (defScope (top 20)) .none kV28 dc28 pm28 an28 cd28 ct28), sl28⟩) (c28 : PySem.W.codeIn K cd28 "need_board" = true) (k28 : PySem.W.keepIn K (.ref f28) = true)
    (a29 : PySem.W.nsIn K mainGlobals "are_asks" = some (some (.ref f29))) (l29 : K.lookup f29 = some ⟨oc29, od29, .func (PySem.W.fnOf "are_asks" "are_asks" (defArgs (top 22)) (defBody (top 22)) (defScope (top 22)) .none kV29 dc29 pm29 an29 cd29 ct29), sl29⟩) (c29 : PySem.W.codeIn K cd29 "are_asks" = true) (k29 : PySem.W.keepIn K (.ref f29) = true)
    (a30 : PySem.W.nsIn K mainGlobals "need_asks" = some (some (.ref f30))) (l30 : K.lookup f30 = some ⟨oc30, od30, .func (PySem.W.fnOf "need_asks" "need_asks" (defArgs (top 23)) (defBody (top 23)) (defScope (top 23)) .none kV30 dc30 pm30 an30 cd30 ct30), sl30⟩) (c30 : PySem.W.codeIn K cd30 "need_asks" = true) (k30 : PySem.W.keepIn K (.ref f30) = true)
    (a31 : PySem.W.nsIn K mainGlobals "need_round" = some (some (.ref f31))) (l31 : K.lookup f31 = some ⟨oc31, od31, .func (PySem.W.fnOf "need_round" "need_round" (defArgs (top 39)) (defBody (top 39)) (defScope (top 39)) .none kV31 dc31 pm31 an31 cd31 ct31), sl31⟩) (c31 : PySem.W.codeIn K cd31 "need_round" = true) (k31 : PySem.W.keepIn K (.ref f31) = true)
    (a32 : PySem.W.nsIn K mainGlobals "one_round" = some (some (.ref f32))) (l32 : K.lookup f32 = some ⟨oc32, od32, .func (PySem.W.fnOf "one_round" "one_round" (defArgs (top 44)) (defBody (top 44)) (defScope (top 44)) .none kV32 dc32 pm32 an32 cd32 ct32), sl32⟩) (c32 : PySem.W.codeIn K cd32 "one_round" = true) (k32 : PySem.W.keepIn K (.ref f32) = true)
    (a33 : PySem.W.nsIn K mainGlobals "_law_take" = some (some (.ref f33))) (l33 : K.lookup f33 = some ⟨oc33, od33, .func (PySem.W.fnOf "_law_take" "_law_take" (defArgs (top 47)) (defBody (top 47)) (defScope (top 47)) .none kV33 dc33 pm33 an33 cd33 ct33), sl33⟩) (c33 : PySem.W.codeIn K cd33 "_law_take" = true) (k33 : PySem.W.keepIn K (.ref f33) = true)
    (a34 : PySem.W.nsIn K mainGlobals "_law_firsts" = some (some (.ref f34))) (l34 : K.lookup f34 = some ⟨oc34, od34, .func (PySem.W.fnOf "_law_firsts" "_law_firsts" (defArgs (top 51)) (defBody (top 51)) (defScope (top 51)) .none kV34 dc34 pm34 an34 cd34 ct34), sl34⟩) (c34 : PySem.W.codeIn K cd34 "_law_firsts" = true) (k34 : PySem.W.keepIn K (.ref f34) = true)
    (a35 : PySem.W.nsIn K mainGlobals "_law_asks" = some (some (.ref f35))) (l35 : K.lookup f35 = some ⟨oc35, od35, .func (PySem.W.fnOf "_law_asks" "_law_asks" (defArgs (top 50)) (defBody (top 50)) (defScope (top 50)) .none kV35 dc35 pm35 an35 cd35 ct35), sl35⟩) (c35 : PySem.W.codeIn K cd35 "_law_asks" = true) (k35 : PySem.W.keepIn K (.ref f35) = true)
    (a36 : PySem.W.nsIn K mainGlobals "_law_number" = some (some (.ref f36))) (l36 : K.lookup f36 = some ⟨oc36, od36, .func (PySem.W.fnOf "_law_number" "_law_number" (defArgs (top 48)) (defBody (top 48)) (defScope (top 48)) .none kV36 dc36 pm36 an36 cd36 ct36), sl36⟩) (c36 : PySem.W.codeIn K cd36 "_law_number" = true) (k36 : PySem.W.keepIn K (.ref f36) = true)
    (a37 : PySem.W.nsIn K mainGlobals "_law_adds" = some (some (.ref f37))) (l37 : K.lookup f37 = some ⟨oc37, od37, .func (PySem.W.fnOf "_law_adds" "_law_adds" (defArgs (top 49)) (defBody (top 49)) (defScope (top 49)) .none kV37 dc37 pm37 an37 cd37 ct37), sl37⟩) (c37 : PySem.W.codeIn K cd37 "_law_adds" = true) (k37 : PySem.W.keepIn K (.ref f37) = true)
    (a38 : PySem.W.nsIn K mainGlobals "_law_pot" = some (some (.ref f38))) (l38 : K.lookup f38 = some ⟨oc38, od38, .func (PySem.W.fnOf "_law_pot" "_law_pot" (defArgs (top 46)) (defBody (top 46)) (defScope (top 46)) .none kV38 dc38 pm38 an38 cd38 ct38), sl38⟩) (c38 : PySem.W.codeIn K cd38 "_law_pot" = true) (k38 : PySem.W.keepIn K (.ref f38) = true)
    (a39 : PySem.W.nsIn K mainGlobals "law" = some (some (.ref f39))) (l39 : K.lookup f39 = some ⟨oc39, od39, .func (PySem.W.fnOf "law" "law" (defArgs (top 55)) (defBody (top 55)) (defScope (top 55)) .none kV39 dc39 pm39 an39 cd39 ct39), sl39⟩) (c39 : PySem.W.codeIn K cd39 "law" = true) (k39 : PySem.W.keepIn K (.ref f39) = true)
    {t_DEEPEST : Tok} (ga_DEEPEST : PySem.W.nsIn K mainGlobals "DEEPEST" = some (some (.int 4 t_DEEPEST)))
    {t_LAST_HAND : Tok} (ga_LAST_HAND : PySem.W.nsIn K mainGlobals "LAST_HAND" = some (some (.int 15 t_LAST_HAND)))
    {t_MOST_BOXES : Tok} (ga_MOST_BOXES : PySem.W.nsIn K mainGlobals "MOST_BOXES" = some (some (.int 16 t_MOST_BOXES)))
    (ga_enumerate : PySem.W.nsIn K mainGlobals "enumerate" = some none)
    (ga_set : PySem.W.nsIn K mainGlobals "set" = some none)
    (ga_sorted : PySem.W.nsIn K mainGlobals "sorted" = some none)
    (ga_sum : PySem.W.nsIn K mainGlobals "sum" = some none)
    (z_abs : PySem.W.nsIn K mainGlobals "abs" = some none)
    (z_len : PySem.W.nsIn K mainGlobals "len" = some none)
    (z_max : PySem.W.nsIn K mainGlobals "max" = some none)
    (z_min : PySem.W.nsIn K mainGlobals "min" = some none)
    (z_divmod : PySem.W.nsIn K mainGlobals "divmod" = some none)
    (z_repr : PySem.W.nsIn K mainGlobals "repr" = some none)
    (z_isinstance : PySem.W.nsIn K mainGlobals "isinstance" = some none)
    (z_all : PySem.W.nsIn K mainGlobals "all" = some none)
    (z_range : PySem.W.nsIn K mainGlobals "range" = some none)
    (z_int : PySem.W.nsIn K mainGlobals "int" = some none)
    (z_bool : PySem.W.nsIn K mainGlobals "bool" = some none)
    (z_str : PySem.W.nsIn K mainGlobals "str" = some none)
    (z_tuple : PySem.W.nsIn K mainGlobals "tuple" = some none)
    (z_list : PySem.W.nsIn K mainGlobals "list" = some none)
    (z_dict : PySem.W.nsIn K mainGlobals "dict" = some none)
    :
    ∃ fd : FuncData, (∀ (s : Shared) (v : Value), BindsTo s fd ⟨[v], []⟩ [("_law_script", v)]) ∧ ∀ base : Heap, K.In base → base.Ns mainGlobals mg → FnOk l.prog w K mg base CX0 9 fa fd ["_law_script"] (sp_law K) := by
  have e := hfa.symm.trans (PySem.W.mg_of X G a39)
  cases e
  have F1 := fun_mk (st := (top 53)) l1 c1 k1
  have F2 := fun_mk (st := (top 52)) l2 c2 k2
  have F3 := fun_mk (st := (top 54)) l3 c3 k3
  have F4 := fun_mk (st := (top 13)) l4 c4 k4
  have F5 := fun_mk (st := (top 28)) l5 c5 k5
  have F6 := fun_mk (st := (top 29)) l6 c6 k6
  have F7 := fun_mk (st := (top 31)) l7 c7 k7
  have F8 := fun_mk (st := (top 40)) l8 c8 k8
  have F9 := fun_mk (st := (top 30)) l9 c9 k9
  have F10 := fun_mk (st := (top 38)) l10 c10 k10
  have F11 := fun_mk (st := (top 43)) l11 c11 k11
  have F12 := fun_mk (st := (top 14)) l12 c12 k12
  have F13 := fun_mk (st := (top 15)) l13 c13 k13
  have F14 := fun_mk (st := (top 41)) l14 c14 k14
  have F15 := fun_mk (st := (top 42)) l15 c15 k15
  have F16 := fun_mk (st := (top 8)) l16 c16 k16
  have F17 := fun_mk (st := (top 9)) l17 c17 k17
  have F18 := fun_mk (st := (top 33)) l18 c18 k18
  have F19 := fun_mk (st := (top 34)) l19 c19 k19
  have F20 := fun_mk (st := (top 26)) l20 c20 k20
  have F21 := fun_mk (st := (top 35)) l21 c21 k21
  have F22 := fun_mk (st := (top 36)) l22 c22 k22
  have F23 := fun_mk (st := (top 27)) l23 c23 k23
  have F24 := fun_mk (st := (top 11)) l24 c24 k24
  have F25 := fun_mk (st := (top 12)) l25 c25 k25
  have F26 := fun_mk (st := (top 21)) l26 c26 k26
  have F27 := fun_mk (st := (top 19)) l27 c27 k27
  have F28 := fun_mk (st := (top 20)) l28 c28 k28
  have F29 := fun_mk (st := (top 22)) l29 c29 k29
  have F30 := fun_mk (st := (top 23)) l30 c30 k30
  have F31 := fun_mk (st := (top 39)) l31 c31 k31
  have F32 := fun_mk (st := (top 44)) l32 c32 k32
  have F33 := fun_mk (st := (top 47)) l33 c33 k33
  have F34 := fun_mk (st := (top 51)) l34 c34 k34
  have F35 := fun_mk (st := (top 50)) l35 c35 k35
  have F36 := fun_mk (st := (top 48)) l36 c36 k36
  have F37 := fun_mk (st := (top 49)) l37 c37 k37
  have F38 := fun_mk (st := (top 46)) l38 c38 k38
  have F39 := fun_mk (st := (top 55)) l39 c39 k39
  have b1 := F1.binds (ps := ["_law_value", "_law_own"]) fun _ _ _ _ _ _ us hl => by obtain ⟨_, _, rfl⟩ := my_len2 hl; rfl
  have b2 := F2.binds (ps := ["_law_row", "_law_many"]) fun _ _ _ _ _ _ us hl => by obtain ⟨_, _, rfl⟩ := my_len2 hl; rfl
  have b3 := F3.binds (ps := ["_law_board", "_law_asks_here", "_law_told"]) fun _ _ _ _ _ _ us hl => by obtain ⟨_, _, _, rfl⟩ := my_len3 hl; rfl
  have b4 := F4.binds (ps := ["deed", "value"]) fun _ _ _ _ _ _ us hl => by obtain ⟨_, _, rfl⟩ := my_len2 hl; rfl
  have b5 := F5.binds (ps := ["k", "stage", "line"]) fun _ _ _ _ _ _ us hl => by obtain ⟨_, _, _, rfl⟩ := my_len3 hl; rfl
  have b6 := F6.binds (ps := ["k", "stage", "line", "wanted"]) fun _ _ _ _ _ _ us hl => by obtain ⟨_, _, _, _, rfl⟩ := my_len4 hl; rfl
  have b7 := F7.binds (ps := ["k", "stage", "line"]) fun _ _ _ _ _ _ us hl => by obtain ⟨_, _, _, rfl⟩ := my_len3 hl; rfl
  have b8 := F8.binds (ps := ["k", "stage", "line", "firsts"]) fun _ _ _ _ _ _ us hl => by obtain ⟨_, _, _, _, rfl⟩ := my_len4 hl; rfl
  have b9 := F9.binds (ps := ["k", "stage", "line", "side"]) fun _ _ _ _ _ _ us hl => by obtain ⟨_, _, _, _, rfl⟩ := my_len4 hl; rfl
  have b10 := F10.binds (ps := ["k", "box"]) fun _ _ _ _ _ _ us hl => by obtain ⟨_, _, rfl⟩ := my_len2 hl; rfl
  have b11 := F11.binds (ps := ["k", "stage", "asked", "kept", "firsts", "answers"]) fun _ _ _ _ _ _ us hl => by obtain ⟨_, _, _, _, _, _, rfl⟩ := my_len6 hl; rfl
  have b12 := F12.binds (ps := ["add", "low", "high"]) fun _ _ _ _ _ _ us hl => by obtain ⟨_, _, _, rfl⟩ := my_len3 hl; rfl
  have b13 := F13.binds (ps := ["one", "other"]) fun _ _ _ _ _ _ us hl => by obtain ⟨_, _, rfl⟩ := my_len2 hl; rfl
  have b14 := F14.binds (ps := ["k", "stage", "asked", "firsts"]) fun _ _ _ _ _ _ us hl => by obtain ⟨_, _, _, _, rfl⟩ := my_len4 hl; rfl
  have b15 := F15.binds (ps := ["k", "asks", "firsts"]) fun _ _ _ _ _ _ us hl => by obtain ⟨_, _, _, rfl⟩ := my_len3 hl; rfl
  have b16 := F16.binds (ps := ["thing"]) fun _ _ _ _ _ _ us hl => by obtain ⟨_, rfl⟩ := my_len1 hl; rfl
  have b17 := F17.binds (ps := ["thing", "least", "greatest"]) fun _ _ _ _ _ _ us hl => by obtain ⟨_, _, _, rfl⟩ := my_len3 hl; rfl
  have b18 := F18.binds (ps := ["k"]) fun _ _ _ _ _ _ us hl => by obtain ⟨_, rfl⟩ := my_len1 hl; rfl
  have b19 := F19.binds (ps := ["k", "thing"]) fun _ _ _ _ _ _ us hl => by obtain ⟨_, _, rfl⟩ := my_len2 hl; rfl
  have b20 := F20.binds (ps := ["thing"]) fun _ _ _ _ _ _ us hl => by obtain ⟨_, rfl⟩ := my_len1 hl; rfl
  have b21 := F21.binds (ps := ["k", "thing"]) fun _ _ _ _ _ _ us hl => by obtain ⟨_, _, rfl⟩ := my_len2 hl; rfl
  have b22 := F22.binds (ps := ["k", "thing"]) fun _ _ _ _ _ _ us hl => by obtain ⟨_, _, rfl⟩ := my_len2 hl; rfl
  have b23 := F23.binds (ps := ["k", "thing"]) fun _ _ _ _ _ _ us hl => by obtain ⟨_, _, rfl⟩ := my_len2 hl; rfl
  have b24 := F24.binds (ps := ["thing"]) fun _ _ _ _ _ _ us hl => by obtain ⟨_, rfl⟩ := my_len1 hl; rfl
  have b25 := F25.binds (ps := ["thing"]) fun _ _ _ _ _ _ us hl => by obtain ⟨_, rfl⟩ := my_len1 hl; rfl
  have b26 := F26.binds (ps := ["board", "thing"]) fun _ _ _ _ _ _ us hl => by obtain ⟨_, _, rfl⟩ := my_len2 hl; rfl
  have b27 := F27.binds (ps := ["thing"]) fun _ _ _ _ _ _ us hl => by obtain ⟨_, rfl⟩ := my_len1 hl; rfl
  have b28 := F28.binds (ps := ["thing"]) fun _ _ _ _ _ _ us hl => by obtain ⟨_, rfl⟩ := my_len1 hl; rfl
  have b29 := F29.binds (ps := ["board", "thing"]) fun _ _ _ _ _ _ us hl => by obtain ⟨_, _, rfl⟩ := my_len2 hl; rfl
  have b30 := F30.binds (ps := ["board", "thing"]) fun _ _ _ _ _ _ us hl => by obtain ⟨_, _, rfl⟩ := my_len2 hl; rfl
  have b31 := F31.binds (ps := ["k", "board", "asks"]) fun _ _ _ _ _ _ us hl => by obtain ⟨_, _, _, rfl⟩ := my_len3 hl; rfl
  have b32 := F32.binds (ps := ["k", "board", "asks", "firsts"]) fun _ _ _ _ _ _ us hl => by obtain ⟨_, _, _, _, rfl⟩ := my_len4 hl; rfl
  have b33 := F33.binds (ps := ["_law_pot_here", "_law_many"]) fun _ _ _ _ _ _ us hl => by obtain ⟨_, _, rfl⟩ := my_len2 hl; rfl
  have b34 := F34.binds (ps := ["_law_pot_here", "_law_k"]) fun _ _ _ _ _ _ us hl => by obtain ⟨_, _, rfl⟩ := my_len2 hl; rfl
  have b35 := F35.binds (ps := ["_law_pot_here", "_law_k", "_law_many", "_law_adds_here"]) fun _ _ _ _ _ _ us hl => by obtain ⟨_, _, _, _, rfl⟩ := my_len4 hl; rfl
  have b36 := F36.binds (ps := ["_law_pot_here"]) fun _ _ _ _ _ _ us hl => by obtain ⟨_, rfl⟩ := my_len1 hl; rfl
  have b37 := F37.binds (ps := ["_law_pot_here", "_law_k"]) fun _ _ _ _ _ _ us hl => by obtain ⟨_, _, rfl⟩ := my_len2 hl; rfl
  have b38 := F38.binds (ps := ["_law_script", "_law_place"]) fun _ _ _ _ _ _ us hl => by obtain ⟨_, _, rfl⟩ := my_len2 hl; rfl
  have B : Blt mg := ⟨PySem.W.mg_none_of X G z_abs, PySem.W.mg_none_of X G z_len, PySem.W.mg_none_of X G z_max, PySem.W.mg_none_of X G z_min, PySem.W.mg_none_of X G z_divmod, PySem.W.mg_none_of X G z_repr, PySem.W.mg_none_of X G z_isinstance, PySem.W.mg_none_of X G z_all, PySem.W.mg_none_of X G z_range, PySem.W.mg_none_of X G z_int, PySem.W.mg_none_of X G z_bool, PySem.W.mg_none_of X G z_str, PySem.W.mg_none_of X G z_tuple, PySem.W.mg_none_of X G z_list, PySem.W.mg_none_of X G z_dict⟩
  refine ⟨PySem.W.fnOf "law" "law" (defArgs (top 55)) (defBody (top 55)) (defScope (top 55)) .none kV39 dc39 pm39 an39 cd39 ct39, fun s v => .of_eq rfl, fun base _ _ => ?_⟩
  have C1 : Callee l.prog w K mg base 1 "_law_runs_on" ["_law_value", "_law_own"] (sp_runs43 K) := ⟨_, _, ok__law_runs_on (P := l.prog) (w := w) (base := base) (n := 0) F1 B    (PySem.W.mg_none_of X G ga_sorted) (PySem.W.mg_none_of X G ga_set)  , b1, k1, PySem.W.mg_of X G a1⟩
  have C2 : Callee l.prog w K mg base 1 "_law_are_whole" ["_law_row", "_law_many"] (sp_whole43 K) := ⟨_, _, ok__law_are_whole (P := l.prog) (w := w) (base := base) (n := 0) F2 B      , b2, k2, PySem.W.mg_of X G a2⟩
  have C3 : Callee l.prog w K mg base 2 "_law_is_right" ["_law_board", "_law_asks_here", "_law_told"] (sp_right43 K) := ⟨_, _, ok__law_is_right (P := l.prog) (w := w) (base := base) (n := 1) F3 B   (C1.mono (by decide)) (C2.mono (by decide)) (PySem.W.mg_none_of X G ga_sum) (PySem.W.mg_none_of X G ga_enumerate)  , b3, k3, PySem.W.mg_of X G a3⟩
  have C4 : Callee l.prog w K mg base 1 "made" ["deed", "value"] (sp_made K) := ⟨_, _, ok_made (P := l.prog) (w := w) (base := base) (n := 0) F4 B      , b4, k4, PySem.W.mg_of X G a4⟩
  have C5 : Callee l.prog w K mg base 1 "figure" ["k", "stage", "line"] (sp_figure K) := ⟨_, _, ok_figure (P := l.prog) (w := w) (base := base) (n := 0) F5 B      , b5, k5, PySem.W.mg_of X G a5⟩
  have C6 : Callee l.prog w K mg base 2 "with_figure" ["k", "stage", "line", "wanted"] (sp_with_figure K) := ⟨_, _, ok_with_figure (P := l.prog) (w := w) (base := base) (n := 1) F6 B   (C5.mono (by decide))   , b6, k6, PySem.W.mg_of X G a6⟩
  have C7 : Callee l.prog w K mg base 1 "switch_at" ["k", "stage", "line"] (sp_switch_at K) := ⟨_, _, ok_switch_at (P := l.prog) (w := w) (base := base) (n := 0) F7 B      , b7, k7, PySem.W.mg_of X G a7⟩
  have C8 : Callee l.prog w K mg base 3 "in_order" ["k", "stage", "line", "firsts"] (sp_in_order K) := ⟨_, _, ok_in_order (P := l.prog) (w := w) (base := base) (n := 2) F8 B   (C6.mono (by decide)) (C7.mono (by decide))   , b8, k8, PySem.W.mg_of X G a8⟩
  have C9 : Callee l.prog w K mg base 3 "onward" ["k", "stage", "line", "side"] (sp_onward K) := ⟨_, _, ok_onward (P := l.prog) (w := w) (base := base) (n := 2) F9 B   (C6.mono (by decide)) (C5.mono (by decide))   , b9, k9, PySem.W.mg_of X G a9⟩
  have C10 : Callee l.prog w K mg base 1 "side_for" ["k", "box"] (sp_side41 K) := ⟨_, _, ok_side_for (P := l.prog) (w := w) (base := base) (n := 0) F10 B      , b10, k10, PySem.W.mg_of X G a10⟩
  have C11 : Callee l.prog w K mg base 4 "share_stage" ["k", "stage", "asked", "kept", "firsts", "answers"] (sp_share41 K) := ⟨_, _, ok_share_stage (P := l.prog) (w := w) (base := base) (n := 3) F11 B   (C4.mono (by decide)) (C8.mono (by decide)) (C7.mono (by decide)) (C9.mono (by decide)) (C10.mono (by decide))   , b11, k11, PySem.W.mg_of X G a11⟩
  have C12 : Callee l.prog w K mg base 1 "tidy" ["add", "low", "high"] (sp_tidy K) := ⟨_, _, ok_tidy (P := l.prog) (w := w) (base := base) (n := 0) F12 B      , b12, k12, PySem.W.mg_of X G a12⟩
  have C13 : Callee l.prog w K mg base 2 "joined" ["one", "other"] (sp_joined K) := ⟨_, _, ok_joined (P := l.prog) (w := w) (base := base) (n := 1) F13 B   (C12.mono (by decide)) (C4.mono (by decide))   , b13, k13, PySem.W.mg_of X G a13⟩
  have C14 : Callee l.prog w K mg base 4 "pass_stage" ["k", "stage", "asked", "firsts"] (sp_pass41 K) := ⟨_, _, ok_pass_stage (P := l.prog) (w := w) (base := base) (n := 3) F14 B   (C13.mono (by decide)) (C7.mono (by decide)) (C9.mono (by decide)) (C10.mono (by decide)) (C8.mono (by decide))   , b14, k14, PySem.W.mg_of X G a14⟩
  have C15 : Callee l.prog w K mg base 5 "pass_net" ["k", "asks", "firsts"] (sp_pnet41 K) := ⟨_, _, ok_pass_net (P := l.prog) (w := w) (base := base) (n := 4) F15 B   (C14.mono (by decide))   , b15, k15, PySem.W.mg_of X G a15⟩
  have C16 : Callee l.prog w K mg base 1 "is_whole" ["thing"] (sp_is_whole K) := ⟨_, _, ok_is_whole (P := l.prog) (w := w) (base := base) (n := 0) F16 B      , b16, k16, PySem.W.mg_of X G a16⟩
  have C17 : Callee l.prog w K mg base 2 "is_within" ["thing", "least", "greatest"] (sp_is_within K) := ⟨_, _, ok_is_within (P := l.prog) (w := w) (base := base) (n := 1) F17 B   (C16.mono (by decide))   , b17, k17, PySem.W.mg_of X G a17⟩
  have C18 : Callee l.prog w K mg base 1 "switches_in_a_stage" ["k"] (sp_switches_in K) := ⟨_, _, ok_switches_in_a_stage (P := l.prog) (w := w) (base := base) (n := 0) F18 B      , b18, k18, PySem.W.mg_of X G a18⟩
  have C19 : Callee l.prog w K mg base 3 "are_marks" ["k", "thing"] (sp_are_marks K) := ⟨_, _, ok_are_marks (P := l.prog) (w := w) (base := base) (n := 2) F19 B   (C17.mono (by decide)) (C18.mono (by decide))   , b19, k19, PySem.W.mg_of X G a19⟩
  have C20 : Callee l.prog w K mg base 3 "need_net" ["thing"] (sp_need_net K) := ⟨_, _, ok_need_net (P := l.prog) (w := w) (base := base) (n := 2) F20 B   (C17.mono (by decide))  (PySem.W.mg_of X G ga_DEEPEST) , b20, k20, PySem.W.mg_of X G a20⟩
  have C21 : Callee l.prog w K mg base 4 "is_settings" ["k", "thing"] (sp_is_settings K) := ⟨_, _, ok_is_settings (P := l.prog) (w := w) (base := base) (n := 3) F21 B   (C19.mono (by decide)) (C20.mono (by decide))   , b21, k21, PySem.W.mg_of X G a21⟩
  have C22 : Callee l.prog w K mg base 5 "need_settings" ["k", "thing"] (sp_need_settings K) := ⟨_, _, ok_need_settings (P := l.prog) (w := w) (base := base) (n := 4) F22 B   (C21.mono (by decide))   , b22, k22, PySem.W.mg_of X G a22⟩
  have C23 : Callee l.prog w K mg base 3 "is_line" ["k", "thing"] (sp_is_line K) := ⟨_, _, ok_is_line (P := l.prog) (w := w) (base := base) (n := 2) F23 B   (C17.mono (by decide))   , b23, k23, PySem.W.mg_of X G a23⟩
  have C24 : Callee l.prog w K mg base 2 "is_end" ["thing"] (sp_is_end K) := ⟨_, _, ok_is_end (P := l.prog) (w := w) (base := base) (n := 1) F24 B   (C16.mono (by decide))   , b24, k24, PySem.W.mg_of X G a24⟩
  have C25 : Callee l.prog w K mg base 3 "is_deed" ["thing"] (sp_is_deed K) := ⟨_, _, ok_is_deed (P := l.prog) (w := w) (base := base) (n := 2) F25 B   (C24.mono (by decide)) (C16.mono (by decide))   , b25, k25, PySem.W.mg_of X G a25⟩
  have C26 : Callee l.prog w K mg base 4 "is_ask" ["board", "thing"] (sp_is_ask K) := ⟨_, _, ok_is_ask (P := l.prog) (w := w) (base := base) (n := 3) F26 B   (C25.mono (by decide)) (C17.mono (by decide))  (PySem.W.mg_of X G ga_LAST_HAND) , b26, k26, PySem.W.mg_of X G a26⟩
  have C27 : Callee l.prog w K mg base 2 "is_board" ["thing"] (sp_is_board K) := ⟨_, _, ok_is_board (P := l.prog) (w := w) (base := base) (n := 1) F27 B   (C16.mono (by decide))  (PySem.W.mg_of X G ga_MOST_BOXES) , b27, k27, PySem.W.mg_of X G a27⟩
  have C28 : Callee l.prog w K mg base 3 "need_board" ["thing"] (sp_need_board K) := ⟨_, _, ok_need_board (P := l.prog) (w := w) (base := base) (n := 2) F28 B   (C27.mono (by decide))   , b28, k28, PySem.W.mg_of X G a28⟩
  have C29 : Callee l.prog w K mg base 5 "are_asks" ["board", "thing"] (sp_are_asks K) := ⟨_, _, ok_are_asks (P := l.prog) (w := w) (base := base) (n := 4) F29 B   (C26.mono (by decide)) (C28.mono (by decide))   , b29, k29, PySem.W.mg_of X G a29⟩
  have C30 : Callee l.prog w K mg base 6 "need_asks" ["board", "thing"] (sp_need_asks K) := ⟨_, _, ok_need_asks (P := l.prog) (w := w) (base := base) (n := 5) F30 B   (C29.mono (by decide))   , b30, k30, PySem.W.mg_of X G a30⟩
  have C31 : Callee l.prog w K mg base 7 "need_round" ["k", "board", "asks"] (sp_need_round K) := ⟨_, _, ok_need_round (P := l.prog) (w := w) (base := base) (n := 6) F31 B   (C23.mono (by decide)) (C30.mono (by decide)) (C20.mono (by decide)) (PySem.W.mg_none_of X G ga_set)  , b31, k31, PySem.W.mg_of X G a31⟩
  have C32 : Callee l.prog w K mg base 8 "one_round" ["k", "board", "asks", "firsts"] (sp_round41 K) := ⟨_, _, ok_one_round (P := l.prog) (w := w) (base := base) (n := 7) F32 B   (C11.mono (by decide)) (C4.mono (by decide)) (C15.mono (by decide)) (C22.mono (by decide)) (C31.mono (by decide))   , b32, k32, PySem.W.mg_of X G a32⟩
  have C33 : Callee l.prog w K mg base 1 "_law_take" ["_law_pot_here", "_law_many"] (sp_take K) := ⟨_, _, ok__law_take (P := l.prog) (w := w) (base := base) (n := 0) F33 B      , b33, k33, PySem.W.mg_of X G a33⟩
  have C34 : Callee l.prog w K mg base 2 "_law_firsts" ["_law_pot_here", "_law_k"] (sp_firsts K) := ⟨_, _, ok__law_firsts (P := l.prog) (w := w) (base := base) (n := 1) F34 B   (C33.mono (by decide))   , b34, k34, PySem.W.mg_of X G a34⟩
  have C35 : Callee l.prog w K mg base 2 "_law_asks" ["_law_pot_here", "_law_k", "_law_many", "_law_adds_here"] (sp_asks43 K) := ⟨_, _, ok__law_asks (P := l.prog) (w := w) (base := base) (n := 1) F35 B   (C33.mono (by decide))   , b35, k35, PySem.W.mg_of X G a35⟩
  have C36 : Callee l.prog w K mg base 2 "_law_number" ["_law_pot_here"] (sp_num43 K) := ⟨_, _, ok__law_number (P := l.prog) (w := w) (base := base) (n := 1) F36 B   (C33.mono (by decide))   , b36, k36, PySem.W.mg_of X G a36⟩
  have C37 : Callee l.prog w K mg base 3 "_law_adds" ["_law_pot_here", "_law_k"] (sp_adds43 K) := ⟨_, _, ok__law_adds (P := l.prog) (w := w) (base := base) (n := 2) F37 B   (C36.mono (by decide)) (C33.mono (by decide))   , b37, k37, PySem.W.mg_of X G a37⟩
  have C38 : Callee l.prog w K mg base 1 "_law_pot" ["_law_script", "_law_place"] (sp_pot K) := ⟨_, _, ok__law_pot (P := l.prog) (w := w) (base := base) (n := 0) F38 B      , b38, k38, PySem.W.mg_of X G a38⟩
  exact ok_law (P := l.prog) (w := w) (base := base) (n := 8) F39 B   (C3.mono (by decide)) (C32.mono (by decide)) (C34.mono (by decide)) (C35.mono (by decide)) (C37.mono (by decide)) (C33.mono (by decide)) (C36.mono (by decide)) (C38.mono (by decide))   
theorem walk {l : PySem.W.OpenLaw} {q : Program} {loose : List Str} {XP : (Str → Option Value) → Heap → Prop} {YP : World → Heap → Prop} {d : DefRec} {K : Params → PySem.W.Frag} (hn : l.most = some 63) (hdf : d.params.defaults = [])
    (hY : ∀ (w : World) (h : Heap), YP w h → (K w.params).In h)
    (F : ∀ (w : World) (mg : Str → Option Value) (fa : Addr) (h : Heap), (K w.params).In h → h.Ns mainGlobals mg → mg d.name = some (.ref fa) →
      ∃ fd : FuncData, (∀ (s : Shared) (u : Value), BindsTo s fd ⟨[u], []⟩ [("_law_script", u)]) ∧ ∀ base : Heap, (K w.params).In base → base.Ns mainGlobals mg → FnOk l.prog w (K w.params) mg base CX0 9 fa fd ["_law_script"] (sp_law (K w.params))) :
    PySem.W.WalkO q loose XP YP l.row.toRowW d [] (fun f vs => PySem.call f vs) :=
  L2.walk_of (n := 63) (k := 9) (x := "_law_script") (CX := fun _ => CX0) (sp := fun w => sp_law (K w.params)) hn (by decide) hdf ⟨rfl, by decide, by decide, rfl⟩ hY F (fun _ _ a ns hl hO hS => ⟨_, rfl, a, ns, rfl, Scr.of hO hS, hl, fun _ => rfl⟩) fun _ _ _ _ _ z => z
theorem walkX {q : Program} {loose : List Str} {XP : (Str → Option Value) → Heap → Prop} {K : Params → PySem.W.Frag} {as : List Addr} {n t : Nat} {r : PySem.W.RowW} {d : DefRec} {kwd : List (Str × Expr)} {run : Value → List Value → Sem Value}
    (e : ∀ P, as = (K P).map (·.1)) (W : PySem.W.WalkO q loose XP (PySem.W.InK K) r d kwd run) : PySem.W.WalkX q loose XP (PySem.W.X.obsZ as) (PySem.W.X.valZ K n t) r d kwd run :=
  fun w s₀ s₁ mg mb G Y a o pm cd doc dV kV h2 h3 h4 h5 h6 h7 args vals as' L hpre hlay hrd hwl hlo =>
    W w s₀ s₁ mg mb G (PySem.W.InK.keeps w s₀.heap s₁.heap (PySem.W.X.z_facts e Y).2.1 L.keeps) a o pm cd doc dV kV h2 h3 h4 h5 h6 h7 args vals as' hpre hlay hrd hwl hlo
end My
open PySem PySem.W PyProof.Rows
def PySem.W.Fast.tw5619160075338339792 : Unit := ()
def PySem.W.Fast.tw15918714573117531496 : Unit := ()
def PySem.W.Fast.tw9150060473850945554 : Unit := ()
def PySem.W.Fast.tw15049766403867161460 : Unit := ()
def PySem.W.Fast.tw5837970586311593874 : Unit := ()
def PySem.W.Fast.tw5847884223379382833 : Unit := ()
def PySem.W.Fast.tw7134478286229709828 : Unit := ()
def PySem.W.Fast.tw8485648441479056644 : Unit := ()
def PySem.W.Fast.tw7169465140747802561 : Unit := ()
def PySem.W.Fast.tw9504597598173535385 : Unit := ()
def PySem.W.Fast.tw91934286380449127 : Unit := ()
def PySem.W.Fast.tw15567320366255940410 : Unit := ()
def PySem.W.Fast.tw9440820434167357037 : Unit := ()
def PySem.W.Fast.tw13488142981940309863 : Unit := ()
def PySem.W.Fast.tw6740482991356702673 : Unit := ()
def PySem.W.Fast.tw366668052027686105 : Unit := ()
def PySem.W.Fast.tw10120928529621422520 : Unit := ()
def PySem.W.Fast.tw8715079782957713816 : Unit := ()
def PySem.W.Fast.tw1057908488562247064 : Unit := ()
def PySem.W.Fast.tw13574308932182030968 : Unit := ()
def PySem.W.Fast.tw12807747693105004469 : Unit := ()
def PySem.W.Fast.tw8274502790907533355 : Unit := ()
def PySem.W.Fast.tw6670249205960882843 : Unit := ()
def PySem.W.Fast.tw9475594961518764726 : Unit := ()
def PySem.W.Fast.tw703110984897704122 : Unit := ()
def PySem.W.Fast.tw7851862486661195787 : Unit := ()
def PySem.W.Fast.tw10281456288800877984 : Unit := ()
def PySem.W.Fast.tw8054481185924821522 : Unit := ()
def PySem.W.Fast.tw9741211847933787809 : Unit := ()
def PySem.W.Fast.tw2113393746237899902 : Unit := ()
def PySem.W.Fast.tw11666711573387756532 : Unit := ()
def PySem.W.Fast.tw5921816349197474934 : Unit := ()
def PySem.W.Fast.tw13965635366790531901 : Unit := ()
def PySem.W.Fast.tw16721674015195714405 : Unit := ()
def PySem.W.Fast.tw17655580145582473692 : Unit := ()
def PySem.W.Fast.tw13279723971210994885 : Unit := ()
def PySem.W.Fast.tw7575599070641108245 : Unit := ()
def PySem.W.Fast.tw6964941959317138046 : Unit := ()
def PySem.W.Fast.tw11331542835019621022 : Unit := ()
def PySem.W.Fast.tw9557789039146149571 : Unit := ()
def PySem.W.Fast.tw12645273389649549484 : Unit := ()
def PySem.W.Fast.tw16745831928363875117 : Unit := ()
def PySem.W.Fast.tw661774362420889201 : Unit := ()
def PySem.W.Fast.tw16021675170715087466 : Unit := ()
def PySem.W.Fast.tw16457858970251045223 : Unit := ()
def PySem.W.Fast.tw18420122681607145097 : Unit := ()
def PySem.W.Fast.tw2288324918822183644 : Unit := ()
def PySem.W.Fast.tw1100626588582175263 : Unit := ()
def PySem.W.Fast.tw11062005255376000746 : Unit := ()
def PySem.W.Fast.tw14639031408144661350 : Unit := ()
def PySem.W.Fast.tw520105040743156487 : Unit := ()
def PySem.W.Fast.tw15510926535070465840 : Unit := ()
def PySem.W.Fast.tw16271947812630646491 : Unit := ()
def PySem.W.Fast.tw1652264306636573462 : Unit := ()
def PySem.W.Fast.tw13860594152191022630 : Unit := ()
def PySem.W.Fast.tw15562441123350956542 : Unit := ()
def PySem.W.Fast.tw15280078349290505163 : Unit := ()
def PySem.W.Fast.tw12095921332931882720 : Unit := ()
def PySem.W.Fast.tw6156587631598150035 : Unit := ()
def PySem.W.Fast.tw12171352667338648819 : Unit := ()
def PySem.W.Fast.tw14588170935255614212 : Unit := ()
def PySem.W.Fast.tw16833113203439784349 : Unit := ()
def PySem.W.Fast.tw10610331666518146711 : Unit := ()
def PySem.W.Fast.tw2895916166143385723 : Unit := ()
def PySem.W.Fast.tw155605857558506627 : Unit := ()
def PySem.W.Fast.tw16289872810536642023 : Unit := ()
def PySem.W.Fast.tw15961304994548388780 : Unit := ()
def PySem.W.Fast.tw5755067801886384722 : Unit := ()
def PySem.W.Fast.tw3279876258732339395 : Unit := ()
def PySem.W.Fast.tw5235195621213825965 : Unit := ()
def PySem.W.Fast.tw4459554861788402144 : Unit := ()
def PySem.W.Fast.tw2849096433467067840 : Unit := ()
def PySem.W.Fast.tw16499775641844848820 : Unit := ()
def PySem.W.Fast.tw12263207921137095488 : Unit := ()
def PySem.W.Fast.tw6716982343801568718 : Unit := ()
def PySem.W.Fast.tw1786370741780998368 : Unit := ()
def PySem.W.Fast.tw289494929701337012 : Unit := ()
def PySem.W.Fast.tw8473875626919071288 : Unit := ()
def PySem.W.Fast.tw425775210695027506 : Unit := ()
def PySem.W.Fast.tw4011236085590338806 : Unit := ()
def PySem.W.Fast.tw6934561919002954917 : Unit := ()
def PySem.W.Fast.tw6615835127350211916 : Unit := ()
def PySem.W.Fast.tw162337273140229321 : Unit := ()
def PySem.W.Fast.tw8811781352976583889 : Unit := ()
def PySem.W.Fast.tw8047548318750064198 : Unit := ()
def PySem.W.Fast.tw16159884025523835865 : Unit := ()
def PySem.W.Fast.tw6624270183060236595 : Unit := ()
def PySem.W.Fast.tw14742975922410361905 : Unit := ()
def PySem.W.Fast.tw7214959387534923248 : Unit := ()
def PySem.W.Fast.tw2284633166000103703 : Unit := ()
def PySem.W.Fast.tw11898835486351773634 : Unit := ()
def PySem.W.Fast.tw15071646219589196792 : Unit := ()
def PySem.W.Fast.tw3128684263937901650 : Unit := ()
def PySem.W.Fast.tw17353697509892129668 : Unit := ()
def PySem.W.Fast.tw14066381576137651821 : Unit := ()
def PySem.W.Fast.tw9101632176997497347 : Unit := ()
def PySem.W.Fast.tw8639033692048141377 : Unit := ()
def PySem.W.Fast.tw16273699096325389996 : Unit := ()
def PySem.W.Fast.tw17067912914928837942 : Unit := ()
def PySem.W.Fast.tw8911447965658837590 : Unit := ()
def PySem.W.Fast.tw6168098414976154155 : Unit := ()
def PySem.W.Fast.tw4737660021884703271 : Unit := ()
def PySem.W.Fast.tw8570183149719715796 : Unit := ()
def PySem.W.Fast.tw930310781642395819 : Unit := ()
def PySem.W.Fast.tw4549629992539894568 : Unit := ()
def PySem.W.Fast.tw14710452616958806181 : Unit := ()
def PySem.W.Fast.tw761441380481408955 : Unit := ()
def PySem.W.Fast.tw2800178477899973722 : Unit := ()
def PySem.W.Fast.tw15296193556623945796 : Unit := ()
def PySem.W.Fast.tw12946938881458259967 : Unit := ()
def PySem.W.Fast.tw1377732689399176561 : Unit := ()
def PySem.W.Fast.tw15062734460756992829 : Unit := ()
def PySem.W.Fast.tw3927425630668477868 : Unit := ()
def PySem.W.Fast.tw17455571298488142197 : Unit := ()
def PySem.W.Fast.tw10901737279715615822 : Unit := ()
def PySem.W.Fast.tw10047900809853175100 : Unit := ()
def PySem.W.Fast.tw10870705235576206368 : Unit := ()
def PySem.W.Fast.tw4880226802497749926 : Unit := ()
def PySem.W.Fast.tw841257496857575155 : Unit := ()
def PySem.W.Fast.tw12390989002455135902 : Unit := ()
def PySem.W.Fast.tw1989963332799554304 : Unit := ()
def PySem.W.Fast.tw95669433632937464 : Unit := ()
def PySem.W.Fast.tw14747927841658102934 : Unit := ()
def PySem.W.Fast.tw7844392731980828128 : Unit := ()
def PySem.W.Fast.tw2353194136869620757 : Unit := ()
def PySem.W.Fast.tw12435321752327949960 : Unit := ()
def PySem.W.Fast.tw13284501490030192324 : Unit := ()
def PySem.W.Fast.tw15280386958318600389 : Unit := ()
def PySem.W.Fast.tw18360050122451576851 : Unit := ()
def PySem.W.Fast.tw8479664681784587325 : Unit := ()
def PySem.W.Fast.tw8439112202337643490 : Unit := ()
def PySem.W.Fast.tw15938851208499825786 : Unit := ()
def PySem.W.Fast.tw9863877160823831570 : Unit := ()
def PySem.W.Fast.tw12606168060600460380 : Unit := ()
def PySem.W.Fast.tw12120378365515918025 : Unit := ()
def PySem.W.Fast.tw13247450188728052990 : Unit := ()
def PySem.W.Fast.tw12830615476205810443 : Unit := ()
def PySem.W.Fast.tw16296437088247909400 : Unit := ()
def PySem.W.Fast.tw12339442330256477932 : Unit := ()
def PySem.W.Fast.tw7072031780777774810 : Unit := ()
def PySem.W.Fast.tw3695518160798182130 : Unit := ()
def PySem.W.Fast.tw12843850840868296299 : Unit := ()
def PySem.W.Fast.tw12907326211239921526 : Unit := ()
def PySem.W.Fast.tw15968428211603795382 : Unit := ()
def PySem.W.Fast.tw5178875732224241812 : Unit := ()
def PySem.W.Fast.tw17026078044914596408 : Unit := ()
def PySem.W.Fast.tw12198140208333441395 : Unit := ()
def PySem.W.Fast.tw2838254235885674591 : Unit := ()
def PySem.W.Fast.tw1998216292306213726 : Unit := ()
def PySem.W.Fast.tw2824032212048938442 : Unit := ()
def PySem.W.Fast.tw3289495135905493269 : Unit := ()
def PySem.W.Fast.tw9479465342394116680 : Unit := ()
def PySem.W.Fast.tw14146408645673374252 : Unit := ()
def PySem.W.Fast.tw12736673178641927797 : Unit := ()
def PySem.W.Fast.tw4388083598518527745 : Unit := ()
def PySem.W.Fast.tw13546309439517792120 : Unit := ()
def PySem.W.Fast.tw8303933880297401741 : Unit := ()
def PySem.W.Fast.tw521139933734966915 : Unit := ()
def PySem.W.Fast.tw12723691485863901825 : Unit := ()
def PySem.W.Fast.tw14913991525318766515 : Unit := ()
set_option maxRecDepth 100000 in
set_option maxHeartbeats 0 in
theorem PySem.Challenge.cw_joinedasks_k43_whole_unlike_answers_holds : PySem.Challenge.rw_joinedasks_k43_whole_unlike_answers.Holds := by
  w_on; o_law; z_head; (case hw => w_witness2)
  refine My.walkX (fun _ => by kernel_rfl) (My.walk (l := PySem.Challenge.rw_joinedasks_k43_whole_unlike_answers) rfl rfl (fun w h Y => Y) ?F)
  case F =>
    intro w mg fa h KX G hmg
    refine' My.all_mk KX G hmg       ?a1 ?l1 ?c1 ?k1 ?a2 ?l2 ?c2 ?k2 ?a3 ?l3 ?c3 ?k3 ?a4 ?l4 ?c4 ?k4 ?a5 ?l5 ?c5 ?k5 ?a6 ?l6 ?c6 ?k6 ?a7 ?l7 ?c7 ?k7 ?a8 ?l8 ?c8 ?k8 ?a9 ?l9 ?c9 ?k9 ?a10 ?l10 ?c10 ?k10 ?a11 ?l11 ?c11 ?k11 ?a12 ?l12 ?c12 ?k12 ?a13 ?l13 ?c13 ?k13 ?a14 ?l14 ?c14 ?k14 ?a15 ?l15 ?c15 ?k15 ?a16 ?l16 ?c16 ?k16 ?a17 ?l17 ?c17 ?k17 ?a18 ?l18 ?c18 ?k18 ?a19 ?l19 ?c19 ?k19 ?a20 ?l20 ?c20 ?k20 ?a21 ?l21 ?c21 ?k21 ?a22 ?l22 ?c22 ?k22 ?a23 ?l23 ?c23 ?k23 ?a24 ?l24 ?c24 ?k24 ?a25 ?l25 ?c25 ?k25 ?a26 ?l26 ?c26 ?k26 ?a27 ?l27 ?c27 ?k27 ?a28 ?l28 ?c28 ?k28 ?a29 ?l29 ?c29 ?k29 ?a30 ?l30 ?c30 ?k30 ?a31 ?l31 ?c31 ?k31 ?a32 ?l32 ?c32 ?k32 ?a33 ?l33 ?c33 ?k33 ?a34 ?l34 ?c34 ?k34 ?a35 ?l35 ?c35 ?k35 ?a36 ?l36 ?c36 ?k36 ?a37 ?l37 ?c37 ?k37 ?a38 ?l38 ?c38 ?k38 ?a39 ?l39 ?c39 ?k39 ?ga_DEEPEST ?ga_LAST_HAND ?ga_MOST_BOXES ?ga_enumerate ?ga_set ?ga_sorted ?ga_sum ?z_abs ?z_len ?z_max ?z_min ?z_divmod ?z_repr ?z_isinstance ?z_all ?z_range ?z_int ?z_bool ?z_str ?z_tuple ?z_list ?z_dict
    (case a1 => k_is); (case l1 => k_is); (case c1 => k_is); (case k1 => k_is)
    (case a2 => k_is); (case l2 => k_is); (case c2 => k_is); (case k2 => k_is)
    (case a3 => k_is); (case l3 => k_is); (case c3 => k_is); (case k3 => k_is)
    (case a4 => k_is); (case l4 => k_is); (case c4 => k_is); (case k4 => k_is)
    (case a5 => k_is); (case l5 => k_is); (case c5 => k_is); (case k5 => k_is)
    (case a6 => k_is); (case l6 => k_is); (case c6 => k_is); (case k6 => k_is)
    (case a7 => k_is); (case l7 => k_is); (case c7 => k_is); (case k7 => k_is)
    (case a8 => k_is); (case l8 => k_is); (case c8 => k_is); (case k8 => k_is)
    (case a9 => k_is); (case l9 => k_is); (case c9 => k_is); (case k9 => k_is)
    (case a10 => k_is); (case l10 => k_is); (case c10 => k_is); (case k10 => k_is)
    (case a11 => k_is); (case l11 => k_is); (case c11 => k_is); (case k11 => k_is)
    (case a12 => k_is); (case l12 => k_is); (case c12 => k_is); (case k12 => k_is)
    (case a13 => k_is); (case l13 => k_is); (case c13 => k_is); (case k13 => k_is)
    (case a14 => k_is); (case l14 => k_is); (case c14 => k_is); (case k14 => k_is)
    (case a15 => k_is); (case l15 => k_is); (case c15 => k_is); (case k15 => k_is)
    (case a16 => k_is); (case l16 => k_is); (case c16 => k_is); (case k16 => k_is)
    (case a17 => k_is); (case l17 => k_is); (case c17 => k_is); (case k17 => k_is)
    (case a18 => k_is); (case l18 => k_is); (case c18 => k_is); (case k18 => k_is)
    (case a19 => k_is); (case l19 => k_is); (case c19 => k_is); (case k19 => k_is)
    (case a20 => k_is); (case l20 => k_is); (case c20 => k_is); (case k20 => k_is)
    (case a21 => k_is); (case l21 => k_is); (case c21 => k_is); (case k21 => k_is)
    (case a22 => k_is); (case l22 => k_is); (case c22 => k_is); (case k22 => k_is)
    (case a23 => k_is); (case l23 => k_is); (case c23 => k_is); (case k23 => k_is)
    (case a24 => k_is); (case l24 => k_is); (case c24 => k_is); (case k24 => k_is)
    (case a25 => k_is); (case l25 => k_is); (case c25 => k_is); (case k25 => k_is)
    (case a26 => k_is); (case l26 => k_is); (case c26 => k_is); (case k26 => k_is)
    (case a27 => k_is); (case l27 => k_is); (case c27 => k_is); (case k27 => k_is)
    (case a28 => k_is); (case l28 => k_is); (case c28 => k_is); (case k28 => k_is)
    (case a29 => k_is); (case l29 => k_is); (case c29 => k_is); (case k29 => k_is)
    (case a30 => k_is); (case l30 => k_is); (case c30 => k_is); (case k30 => k_is)
    (case a31 => k_is); (case l31 => k_is); (case c31 => k_is); (case k31 => k_is)
    (case a32 => k_is); (case l32 => k_is); (case c32 => k_is); (case k32 => k_is)
    (case a33 => k_is); (case l33 => k_is); (case c33 => k_is); (case k33 => k_is)
    (case a34 => k_is); (case l34 => k_is); (case c34 => k_is); (case k34 => k_is)
    (case a35 => k_is); (case l35 => k_is); (case c35 => k_is); (case k35 => k_is)
    (case a36 => k_is); (case l36 => k_is); (case c36 => k_is); (case k36 => k_is)
    (case a37 => k_is); (case l37 => k_is); (case c37 => k_is); (case k37 => k_is)
    (case a38 => k_is); (case l38 => k_is); (case c38 => k_is); (case k38 => k_is)
    (case a39 => k_is); (case l39 => k_is); (case c39 => k_is); (case k39 => k_is)
    (case ga_DEEPEST => k_is)
    (case ga_LAST_HAND => k_is)
    (case ga_MOST_BOXES => k_is)
    (case ga_enumerate => k_is)
    (case ga_set => k_is)
    (case ga_sorted => k_is)
    (case ga_sum => k_is)
    (case z_abs => k_is); (case z_len => k_is); (case z_max => k_is); (case z_min => k_is); (case z_divmod => k_is); (case z_repr => k_is); (case z_isinstance => k_is); (case z_all => k_is); (case z_range => k_is); (case z_int => k_is); (case z_bool => k_is); (case z_str => k_is); (case z_tuple => k_is); (case z_list => k_is); (case z_dict => k_is)
