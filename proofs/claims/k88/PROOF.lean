import PyProof.Rows.All
import Wide.All
import OpenK.AllK
import Wide.FinOn
import Lean
import PyProof.EqAt
import PyProof.EqKinds
import PyProof.TupleCall
import PyProof.NeKinds
import PyProof.ReprRoads
import PyProof.ReprLen
import PyProof.Rows.RegStrFacts
import PyProof.Draws
import PyProof.EnumStmt
import PyProof.ZipIter
import PyProof.ListNew
import PyProof.TupleOfGen
import PyProof.ListRange
import PyProof.Rows.Range3
import PyProof.SumWalkG
import PyProof.Rows.RuleB_lshift
import PyProof.AutoSeq1
import PyProof.Cells
import PyProof.AutoListH
import PyProof.DictTable
import PyProof.RulesAs
import PyProof.NsDelKeeps
import KE.KDictList
import PyProof.ExcBaseAll.ValueError
import PyProof.ExcAttrAll.ValueError
import PySem.Challenge.RW_joinedasks_k88_counters_beside_one_anoth
set_option Elab.async false
set_option linter.all false
set_option maxRecDepth 100000
namespace L2
open PySem PySem.Spec PyProof.Rows

abbrev Key := Sum Int Str
def keyIs : Key → Value → Bool
  | .inl k, v => Value.isInt k v
  | .inr x, v => Value.isStrOf x v
def keyH (w : World) : Key → Int
  | .inl k => hashInt k
  | .inr x => hashStr w x
theorem keyIs_shape : ∀ {k : Key} {v : Value}, keyIs k v = true → (∃ i t, k = Sum.inl i ∧ v = Value.int i t) ∨ (∃ x t, k = Sum.inr x ∧ v = Value.str x t)
  | .inl i, v, h => by
    obtain ⟨t, e⟩ := Value.isInt_shape (k := i) (v := v) h
    exact .inl ⟨i, t, rfl, e⟩
  | .inr x, v, h => by
    obtain ⟨t, e⟩ := Value.isStrOf_shape (x := x) (v := v) h
    exact .inr ⟨x, t, rfl, e⟩
theorem key_ll (a b : Int) : decide ((Sum.inl a : Key) = Sum.inl b) = (a == b) := by
  by_cases e : a = b
  · subst e; simp
  · have h : ¬ (Sum.inl a : Key) = Sum.inl b := fun q => e (Sum.inl.inj q)
    rw [decide_eq_false h]
    exact (beq_eq_false_iff_ne.mpr e).symm
theorem key_rr (a b : Str) : decide ((Sum.inr a : Key) = Sum.inr b) = decide (a = b) := by
  by_cases e : a = b
  · subst e; simp
  · have h : ¬ (Sum.inr a : Key) = Sum.inr b := fun q => e (Sum.inr.inj q)
    rw [decide_eq_false h, decide_eq_false e]
theorem key_lr (a : Int) (b : Str) : decide ((Sum.inl a : Key) = Sum.inr b) = false := decide_eq_false (fun q => nomatch q)
theorem key_rl (a : Str) (b : Int) : decide ((Sum.inr a : Key) = Sum.inl b) = false := decide_eq_false (fun q => nomatch q)

def mixKind (prog : Program) (w : World) : PySem.KeyKind prog w Key where
  is := keyIs
  hash := keyH w
  inj := fun v a b ha hb => by
    rcases keyIs_shape ha with ⟨i, t, rfl, rfl⟩ | ⟨x, t, rfl, rfl⟩
    · rcases keyIs_shape hb with ⟨j, u, rfl, e⟩ | ⟨y, u, rfl, e⟩
      · injection e with e1 _; rw [e1]
      · exact nomatch e
    · rcases keyIs_shape hb with ⟨j, u, rfl, e⟩ | ⟨y, u, rfl, e⟩
      · exact nomatch e
      · injection e with e1 _; rw [e1]
  byValue := fun k v h => by
    rcases keyIs_shape h with ⟨i, t, rfl, rfl⟩ | ⟨x, t, rfl, rfl⟩ <;> rfl
  pyHash := fun hv h => by
    rcases keyIs_shape hv with ⟨i, t, rfl, rfl⟩ | ⟨x, t, rfl, rfl⟩
    · exact wpAny_pyHash_int h
    · exact wpAny_pyHash_str h
  eqBool := fun hu hv h => by
    rcases keyIs_shape hu with ⟨i, t, rfl, rfl⟩ | ⟨x, t, rfl, rfl⟩
    · rcases keyIs_shape hv with ⟨j, u, rfl, rfl⟩ | ⟨y, u, rfl, rfl⟩
      · rw [key_ll] at h; exact wpAny_eqBool_int h
      · rw [key_lr] at h; exact SeqAt.EqAt.int_str i t y u _ _ _ _ h
    · rcases keyIs_shape hv with ⟨j, u, rfl, rfl⟩ | ⟨y, u, rfl, rfl⟩
      · rw [key_rl] at h; exact SeqAt.EqAt.str_int x t j u _ _ _ _ h
      · rw [key_rr] at h; exact wpAny_eqBool_str h
  «strs» := fun k x t v h => by
    rcases keyIs_shape h with ⟨i, u, rfl, e⟩ | ⟨y, u, rfl, e⟩
    · exact nomatch e
    · injection e with e1 _
      subst e1
      cases v <;> rfl

end L2

namespace L2
open PySem PySem.Spec PyProof.Rows

inductive V where
  | non | bl (b : Bool) | int (i : Int) | str (x : Str) | byt (b : Array UInt8) | flt (b : UInt64) | ref (a : Addr) | ty (n : String)
  deriving DecidableEq

def RelV : V → Value → Prop
  | .non, u => u = Value.none
  | .bl b, u => u = Value.bool b
  | .int i, u => ∃ t, u = Value.int i t
  | .str x, u => ∃ t, u = Value.str x t
  | .byt b, u => ∃ t, u = Value.bytes b t
  | .flt b, u => ∃ t, u = Value.float b t
  | .ref a, u => u = Value.ref a
  | .ty n, u => u = Value.type n

abbrev Vals : List V → List Value → Prop := Paired RelV
theorem Vals.length {xs : List V} {us : List Value} (r : Vals xs us) : xs.length = us.length := Paired.length r
theorem Vals.get : ∀ {xs : List V} {us : List Value} {i : Nat} {x : V}, Vals xs us → xs[i]? = some x → ∃ u, us[i]? = some u ∧ RelV x u
  | _, _, _, _, .nil, e => by simp at e
  | _, _, 0, _, .cons r _, e => by simp at e; subst e; exact ⟨_, rfl, r⟩
  | _, _, i + 1, x, .cons _ t, e => by
    obtain ⟨u, h1, h2⟩ := Vals.get (i := i) (x := x) t (by simpa using e)
    exact ⟨u, by simpa using h1, h2⟩
theorem Vals.set {x : V} {u : Value} (r : RelV x u) : ∀ {xs : List V} {us : List Value} (i : Nat), Vals xs us → Vals (xs.set i x) (us.set i u)
  | _, _, _, .nil => .nil
  | _, _, 0, .cons _ t => .cons r t
  | _, _, i + 1, .cons q t => .cons q (Vals.set r i t)
theorem Vals.append : ∀ {xs ys : List V} {us ws : List Value}, Vals xs us → Vals ys ws → Vals (xs ++ ys) (us ++ ws)
  | _, _, _, _, .nil, s => s
  | _, _, _, _, .cons r t, s => .cons r (Vals.append t s)
theorem Vals.take : ∀ {xs : List V} {us : List Value} (n : Nat), Vals xs us → Vals (xs.take n) (us.take n)
  | _, _, 0, _ => .nil
  | _, _, _ + 1, .nil => .nil
  | _, _, n + 1, .cons r t => .cons r (Vals.take n t)
theorem Vals.drop : ∀ {xs : List V} {us : List Value} (n : Nat), Vals xs us → Vals (xs.drop n) (us.drop n)
  | _, _, 0, r => r
  | _, _, _ + 1, .nil => .nil
  | _, _, n + 1, .cons _ t => Vals.drop n t
theorem Vals.none_of : ∀ {xs : List V} {us : List Value} {i : Nat}, Vals xs us → xs[i]? = none → us[i]? = none := fun {xs us i} r e => by
  have h1 := r.length
  have h2 : xs.length ≤ i := List.getElem?_eq_none_iff.mp e
  exact List.getElem?_eq_none_iff.mpr (by omega)

def RelO : Option V → Option Value → Prop
  | some v, some u => RelV v u
  | none, none => True
  | _, _ => False
def KV {κ : Type} : List (κ × V) → List (κ × Value) → Prop := Paired fun (p : κ × V) (q : κ × Value) => p.1 = q.1 ∧ RelV p.2 q.2

def kV : Key → V
  | .inl i => .int i
  | .inr x => .str x

inductive HO where
  /-- a list -/
  | lst (xs : List V)
  /-- a tuple (never changes) -/
  | tup (xs : List V)
  /-- a dict whose keys are ints and texts; one whose keys are tuples of ints and texts (the empty one is both) -/
  | dK (kvs : List (Key × V)) | dT (kvs : List (List Key × V))
  /-- a set of ints: its members, its size -/
  | set (S : Int → Bool) (n : Nat)
  /-- an instance of the class at C, its dict at dx, its attributes -/
  | ins (C dx : Addr) (fs : List (Str × V))
  /-- the dict of the instance at x -/
  | own (x : Addr)
  /-- the dict of an exception -/
  | xd (fs : List (Str × V))
  /-- a bound method, f of x -/
  | met (f x : Addr)
  /-- a range object lo, lo + 1, .. below hi -/
  | rng (lo hi : Int)
  /-- a thing that is known to the object (the script; a dict while a loop walks it): read, never written while it is so -/
  | frz (o : Obj) (u : HO)
  /-- a code object's table -/
  | tbl (ps : Array Value)
  /-- any other thing, by what is true of its one object (a def of one's own: SetO a S n := HO.ext fun h => ..) -/
  | ext (φ : Heap → Prop)

abbrev Hp := Addr → Option HO
def upd (H : Hp) (a : Addr) (o : HO) : Hp := fun b => if b = a then some o else H b
theorem upd_same {H : Hp} {a : Addr} {o : HO} : upd H a o a = some o := by unfold upd; rw [if_pos rfl]
theorem upd_ne {H : Hp} {a b : Addr} {o : HO} (h : b ≠ a) : upd H a o b = H b := by unfold upd; rw [if_neg h]
theorem ne_of_none {H : Hp} {a b : Addr} {o : HO} (h : H a = some o) (h' : H b = none) : a ≠ b := by
  intro e; subst e; rw [h] at h'; cases h'

section
variable (P : Program) (w : World)
def ObjOk (H : Hp) (h : Heap) (a : Addr) : HO → Prop
  | .lst xs => xs.length ≤ sizeLine ∧ ∃ (its : List Value) (n : Nat), Vals xs its ∧ h.get? a = some { cls := .type "list", data := .seq its.toArray n }
  | .tup xs => xs.length ≤ sizeLine ∧ ∃ its : List Value, Vals xs its ∧ IsTup h a its.toArray
  | .dK kvs => kvs.length ≤ sizeLine ∧ (a == sysModules) = false ∧ ∃ vs, KV kvs vs ∧ h.DictOf (mixKind P w) a vs
  | .dT kvs => kvs.length ≤ sizeLine ∧ (a == sysModules) = false ∧ ∃ xs : List (List Key × Addr × Value),
      Paired (fun (p : List Key × V) (q : List Key × Addr × Value) => p.1 = q.1 ∧ H q.2.1 = some (.tup (p.1.map kV)) ∧ RelV p.2 q.2.2) kvs xs ∧
      ∃ o es ep, h.get? a = some o ∧ o.ExactDict ∧ o.data = .dict es ep ∧ es.toList = xs.map (entryOfKey (tupleKind (mixKind P w))) ∧ (xs.map (·.1)).Nodup
  | .set S n => h.SetOf (intKind P w) a S n
  | .ins C dx fs => H dx = some (.own a) ∧ fs.length ≤ 1000 ∧ dx ≠ a ∧ h.get? a = some (PySem.W.instObj C dx) ∧
      ∃ mA, h.Ns1 dx mA ∧ (∀ f, RelO (fs.lookup f) (mA f)) ∧ PySem.Within mA (fs.map (·.1))
  | .own _ => ∃ o, h.get? a = some o
  | .xd fs => ∃ mA, h.Ns1 a mA ∧ ∀ f, RelO (fs.lookup f) (mA f)
  | .rng lo hi => ∃ t u v, h.get? a = some { cls := .type "range", data := .fields #[.int lo t, .int hi u, .int 1 v] }
  | .frz o u => h.get? a = some o ∧ ObjOk H h a u
  | .tbl ps => h.get? a = some { cls := .none, data := .fields ps }
  | .met f x => h.get? a = some (PySem.W.methodObj (.ref f) (.ref x))
  | .ext φ => φ h ∧ (∃ o, h.get? a = some o) ∧ ∀ h1 h2 : Heap, φ h1 → (∀ o, h1.get? a = some o → h2.get? a = some o) → φ h2
def HOk (H : Hp) (h : Heap) : Prop := ∀ a o, H a = some o → ObjOk P w H h a o
end

section
variable {P : Program} {w : World} {H H' : Hp} {h h' : Heap} {a : Addr} {o : HO}
theorem ObjOk.lt (x : ObjOk P w H h a o) : a < h.objs.size := by
  cases o with
  | lst xs => obtain ⟨_, _, _, _, e⟩ := x; exact Heap.lt_size e
  | tup xs => obtain ⟨_, _, _, p⟩ := x; exact p.lt
  | dK kvs => obtain ⟨_, _, _, _, o, _, _, e, _⟩ := x; exact Heap.lt_size e
  | dT kvs => obtain ⟨_, _, _, _, o, _, _, e, _⟩ := x; exact Heap.lt_size e
  | set S n => obtain ⟨o, _, _, _, e, _⟩ := x; exact Heap.lt_size e
  | ins C dx fs => obtain ⟨_, _, _, e, _⟩ := x; exact Heap.lt_size e
  | own y => obtain ⟨_, e⟩ := x; exact Heap.lt_size e
  | xd fs => obtain ⟨_, ⟨_, _, _, e, _⟩, _⟩ := x; exact Heap.lt_size e
  | rng lo hi => obtain ⟨_, _, _, e⟩ := x; exact Heap.lt_size e
  | frz ob u => obtain ⟨e, _⟩ := x; exact Heap.lt_size e
  | tbl ps => exact Heap.lt_size (show h.get? a = some _ from x)
  | met f y => exact Heap.lt_size (show h.get? a = some _ from x)
  | ext φ => obtain ⟨_, ⟨_, e⟩, _⟩ := x; exact Heap.lt_size e
theorem Paired.mapP {α β : Type} {F G : α → β → Prop} : ∀ {l₁ : List α} {l₂ : List β}, Paired F l₁ l₂ → (∀ a b, F a b → G a b) → Paired G l₁ l₂
  | _, _, .nil, _ => .nil
  | _, _, .cons r t, f => .cons (f _ _ r) (Paired.mapP t f)
theorem ObjOk.stay (x : ObjOk P w H h a o) (k : ∀ b u, (b = a ∨ H b = some (.own a)) → h.get? b = some u → h'.get? b = some u)
    (ho : ∀ b, H b = some (.own a) → H' b = some (.own a)) (ht : ∀ b xs, H b = some (.tup xs) → H' b = some (.tup xs)) : ObjOk P w H' h' a o := by
  induction o with
  | lst xs => obtain ⟨z, its, n, r, e⟩ := x; exact ⟨z, its, n, r, k _ _ (.inl rfl) e⟩
  | tup xs => obtain ⟨z, its, r, ob, e, c⟩ := x; exact ⟨z, its, r, ob, k _ _ (.inl rfl) e, c⟩
  | dK kvs => obtain ⟨z, y, vs, r, ob, es, ep, e, c⟩ := x; exact ⟨z, y, vs, r, ob, es, ep, k _ _ (.inl rfl) e, c⟩
  | dT kvs =>
    obtain ⟨z, y, xs, r, ob, es, ep, e, c⟩ := x
    exact ⟨z, y, xs, Paired.mapP r fun p q z => ⟨z.1, ht _ _ z.2.1, z.2.2⟩, ob, es, ep, k _ _ (.inl rfl) e, c⟩
  | set S n => obtain ⟨ob, es, ep, t, e, c⟩ := x; exact ⟨ob, es, ep, t, k _ _ (.inl rfl) e, c⟩
  | ins C dx fs =>
    obtain ⟨d, z, ne, e, mA, ⟨od, es, ep, e2, c⟩, r⟩ := x
    exact ⟨ho _ d, z, ne, k _ _ (.inl rfl) e, mA, ⟨od, es, ep, k _ _ (.inr d) e2, c⟩, r⟩
  | own y => obtain ⟨ob, e⟩ := x; exact ⟨ob, k _ _ (.inl rfl) e⟩
  | xd fs => obtain ⟨mA, ⟨od, es, ep, e, c⟩, r⟩ := x; exact ⟨mA, ⟨od, es, ep, k _ _ (.inl rfl) e, c⟩, r⟩
  | rng lo hi => obtain ⟨t, u, v, e⟩ := x; exact ⟨t, u, v, k _ _ (.inl rfl) e⟩
  | frz ob u ih => obtain ⟨e, q⟩ := x; exact ⟨k _ _ (.inl rfl) e, ih q⟩
  | tbl ps =>
    have e : h.get? a = some { cls := .none, data := .fields ps } := x
    show h'.get? a = some { cls := .none, data := .fields ps }
    exact k a _ (.inl rfl) e
  | met f y =>
    have e : h.get? a = some (PySem.W.methodObj (.ref f) (.ref y)) := x
    show h'.get? a = some (PySem.W.methodObj (.ref f) (.ref y))
    exact k a _ (.inl rfl) e
  | ext φ => obtain ⟨p, ⟨o, e⟩, st⟩ := x; exact ⟨st _ _ p fun o q => k _ _ (.inl rfl) q, ⟨o, k _ _ (.inl rfl) e⟩, st⟩
theorem HOk.lt (x : HOk P w H h) (e : H a = some o) : a < h.objs.size := (x a o e).lt
theorem HOk.fresh (x : HOk P w H h) (e : h.objs.size ≤ a) : H a = none := by
  cases q : H a with
  | none => rfl
  | some u => exact absurd (Nat.lt_of_lt_of_le (x.lt q) e) (Nat.lt_irrefl _)
theorem HOk.kept (x : HOk P w H h) (k : ∀ b u, h.get? b = some u → h'.get? b = some u) : HOk P w H h' := fun a o e =>
  (x a o e).stay (fun b u _ q => k b u q) (fun _ q => q) fun _ _ q => q
theorem HOk.laid (x : HOk P w H h) (k : ∀ b u, h.get? b = some u → h'.get? b = some u) (hp : h.objs.size ≤ a) (new : ObjOk P w (upd H a o) h' a o) : HOk P w (upd H a o) h' := fun b u e => by
  have hn := x.fresh hp
  by_cases hb : b = a
  · subst hb; rw [upd_same] at e; cases e; exact new
  · rw [upd_ne hb] at e
    exact (x b u e).stay (fun c v _ q => k c v q) (fun c q => by rw [upd_ne (ne_of_none q hn)]; exact q) fun c xs q => by rw [upd_ne (ne_of_none q hn)]; exact q
end

def Rd (H : Hp) (a : Addr) (u : HO) : Prop := H a = some u ∨ ∃ o, H a = some (.frz o u)
theorem Rd.of {H : Hp} {a : Addr} {u : HO} (h : H a = some u) : Rd H a u := .inl h
theorem Rd.ok {P : Program} {w : World} {H : Hp} {h : Heap} {a : Addr} {u : HO} (r : Rd H a u) (x : HOk P w H h) : ObjOk P w H h a u := by
  rcases r with r | ⟨o, r⟩
  · exact x a u r
  · obtain ⟨_, q⟩ := x a _ r
    exact q
def Mut : Option HO → Prop
  | some (.lst _) => True
  | some (.dK _) => True
  | some (.dT _) => True
  | some (.set _ _) => True
  | some (.ins _ _ _) => True
  | some (.ext _) => True
  | _ => False
section
variable {P : Program} {w : World} {H : Hp} {h h' : Heap} {x e : Addr} {o' : HO}
theorem HOk.write (ok : HOk P w H h) (mu : Mut (H x)) (he : e = x ∨ H e = some (.own x)) (k : ∀ b u, b ≠ e → h.get? b = some u → h'.get? b = some u) (heo : ∃ u, h'.get? e = some u)
    (new : ObjOk P w (upd H x o') h' x o') : HOk P w (upd H x o') h' := fun b u q => by
  have nown : ∀ c y, H c = some (.own y) → c ≠ x := fun c y r z => by subst z; rw [r] at mu; exact mu
  have ntup : ∀ c xs, H c = some (.tup xs) → c ≠ x := fun c xs r z => by subst z; rw [r] at mu; exact mu
  by_cases hb : b = x
  · subst hb; rw [upd_same] at q; cases q; exact new
  · rw [upd_ne hb] at q
    by_cases hbe : b = e
    · have q' : H b = some (.own x) := by
        rcases he with z | z
        · exact absurd (hbe.trans z) hb
        · rw [hbe]; exact z
      rw [q] at q'; cases q'
      obtain ⟨v, hv⟩ := heo
      exact ⟨v, by rw [hbe]; exact hv⟩
    · refine (ok b u q).stay (fun c v hc r => k c v ?_ r) (fun c r => by rw [upd_ne (nown c b r)]; exact r) fun c xs r => by rw [upd_ne (ntup c xs r)]; exact r
      rcases hc with rfl | hc
      · exact hbe
      · rintro rfl
        rcases he with z | z
        · exact nown c b hc z
        · rw [hc] at z; cases z; exact hb rfl
end

structure Un (fs ex : List Addr) (H H' : Hp) (h h' : Heap) : Prop where
  keep : ∀ b o, h.get? b = some o → H b = none → b ∉ fs → b ∉ ex → h'.get? b = some o
  slot : ∀ b o, h.get? b = some o → H b = none → b ∈ fs → b ∉ ex → ∃ sl, h'.get? b = some { o with slots := sl }
  free : ∀ b o, h.get? b = some o → H b = none → b ∉ ex → H' b = none
  there : ∀ b o, h.get? b = some o → b ∉ ex → ∃ o', h'.get? b = some o'
  tups : ∀ b xs, H b = some (.tup xs) → H' b = some (.tup xs)
  frzs : ∀ b o u, H b = some (.frz o u) → H' b = some (.frz o u)
  tbls : ∀ b ps, H b = some (.tbl ps) → ∃ more, H' b = some (.tbl (ps ++ more))
section
variable {fs fs' ex ex' : List Addr} {H H1 H2 : Hp} {h h1 h2 h' : Heap} {a x e : Addr} {o : HO}
theorem Un.any (u : Un fs ex H H1 h h1) {b : Addr} {ob : Obj} (q : h.get? b = some ob) (n : H b = none) (hx : b ∉ ex) : ∃ sl, h1.get? b = some { ob with slots := sl } := by
  by_cases hb : b ∈ fs
  · exact u.slot b ob q n hb hx
  · exact ⟨ob.slots, u.keep b ob q n hb hx⟩
theorem Un.trans (a : Un fs ex H H1 h h1) (b : Un fs ex H1 H2 h1 h2) : Un fs ex H H2 h h2 where
  keep := fun c ob q n hc hx => b.keep c ob (a.keep c ob q n hc hx) (a.free c ob q n hx) hc hx
  slot := fun c ob q n hc hx => by
    obtain ⟨sl, e1⟩ := a.slot c ob q n hc hx
    obtain ⟨sl', e2⟩ := b.slot c _ e1 (a.free c ob q n hx) hc hx
    exact ⟨sl', e2⟩
  free := fun c ob q n hx => by
    obtain ⟨o', e1⟩ := a.there c ob q hx
    exact b.free c o' e1 (a.free c ob q n hx) hx
  there := fun c ob q hx => by
    obtain ⟨o', e1⟩ := a.there c ob q hx
    exact b.there c o' e1 hx
  tups := fun c xs q => b.tups c xs (a.tups c xs q)
  frzs := fun c ob xs q => b.frzs c ob xs (a.frzs c ob xs q)
  tbls := fun c ps q => by
    obtain ⟨m1, e1⟩ := a.tbls c ps q
    obtain ⟨m2, e2⟩ := b.tbls c _ e1
    exact ⟨m1 ++ m2, by rw [e2, Array.append_assoc]⟩
theorem Un.kept (k : ∀ b u, h.get? b = some u → h'.get? b = some u) : Un fs ex H H h h' :=
  ⟨fun b ob q _ _ _ => k b ob q, fun b ob q _ _ _ => ⟨ob.slots, k b ob q⟩, fun _ _ _ n _ => n, fun b ob q _ => ⟨ob, k b ob q⟩, fun _ _ q => q, fun _ _ _ q => q, fun _ ps q => ⟨#[], by rw [q]; simp⟩⟩
theorem Un.refl : Un fs ex H H h h := Un.kept fun _ _ q => q
theorem Un.laid (k : ∀ b u, h.get? b = some u → h'.get? b = some u) (hp : h.objs.size ≤ a) (hn : H a = none) : Un fs ex H (upd H a o) h h' where
  keep := fun b u q _ _ _ => k b u q
  slot := fun b u q _ _ _ => ⟨u.slots, k b u q⟩
  free := fun b u q n _ => by rw [upd_ne (Nat.ne_of_lt (Nat.lt_of_lt_of_le (Heap.lt_size q) hp))]; exact n
  there := fun b u q _ => ⟨u, k b u q⟩
  tups := fun b xs q => by rw [upd_ne (ne_of_none q hn)]; exact q
  frzs := fun b u xs q => by rw [upd_ne (ne_of_none q hn)]; exact q
  tbls := fun b ps q => ⟨#[], by rw [upd_ne (ne_of_none q hn), q]; simp⟩
theorem Un.write (mu : Mut (H x)) (he : e = x ∨ H e = some (.own x)) (k : ∀ b u, b ≠ e → h.get? b = some u → h'.get? b = some u) (heo : ∃ u, h'.get? e = some u) : Un fs ex H (upd H x o) h h' := by
  have hx : ∀ b, H b = none → b ≠ x := fun b n z => by subst z; rw [n] at mu; exact mu
  have hb : ∀ b, H b = none → b ≠ e := fun b n z => by
    subst z
    rcases he with r | r
    · exact hx b n r
    · rw [n] at r; cases r
  have hm : ∀ b u, H b = some u → ¬ Mut (some u) → b ≠ x := fun b u q nm z => by subst z; rw [q] at mu; exact nm mu
  refine ⟨fun b u q n _ _ => k b u (hb b n) q, fun b u q n _ _ => ⟨u.slots, k b u (hb b n) q⟩, fun b u q n _ => by rw [upd_ne (hx b n)]; exact n, fun b u q _ => ?_,
    fun b xs q => by rw [upd_ne (hm b _ q fun z => z)]; exact q, fun b u xs q => by rw [upd_ne (hm b _ q fun z => z)]; exact q, fun b ps q => ⟨#[], by rw [upd_ne (hm b _ q fun z => z), q]; simp⟩⟩
  by_cases hbe : b = e
  · subst hbe; exact heo
  · exact ⟨u, k b u hbe q⟩
theorem Un.mono (u : Un fs ex H H1 h h1) (hs : ∀ b ∈ fs, b ∈ fs') (hx : ∀ b ∈ ex, b ∈ ex') : Un fs' ex' H H1 h h1 :=
  ⟨fun b ob q n hb he => u.keep b ob q n (fun z => hb (hs b z)) fun z => he (hx b z), fun _ _ q n _ he => u.any q n fun z => he (hx _ z), fun b ob q n he => u.free b ob q n fun z => he (hx b z), fun b ob q he => u.there b ob q fun z => he (hx b z), u.tups, u.frzs, u.tbls⟩
end

def trk (h : Heap) (H : Hp) : List Addr := (List.range h.objs.size).filter fun a => (H a).isSome
def hidT (h : Heap) (H : Hp) : Heap := PySem.W.hideAll h (trk h H)
theorem hidT_size (h : Heap) (H : Hp) : (hidT h H).objs.size = h.objs.size := PySem.W.hideAll_size _ _
theorem hidT_get {h : Heap} {H : Hp} {b : Addr} {o : Obj} (e : h.get? b = some o) (n : H b = none) : (hidT h H).get? b = some o :=
  PySem.W.hideAll_get _ e fun hm => by
    have q : (H b).isSome = true := (List.mem_filter.mp hm).2
    rw [n] at q; simp at q
theorem of_hidT {h : Heap} {H : Hp} {b : Addr} {o : Obj} (e : (hidT h H).get? b = some o) : h.get? b = some o ∧ H b = none := by
  have e' : h.get? b = some o := PySem.W.of_hideAll (trk h H) e
  refine ⟨e', ?_⟩
  cases q : H b with
  | none => rfl
  | some x =>
    have hm : b ∈ trk h H := List.mem_filter.mpr ⟨List.mem_range.mpr (Heap.lt_size e'), by simp [q]⟩
    have z : (hidT h H).get? b = none := PySem.W.hideAll_none (trk h H) hm
    rw [z] at e; cases e

def allNews (g h : Heap) (L : Addr) : List (Addr × Obj) := (List.range h.objs.size).filterMap fun a => if a = L ∨ (g.get? a).isSome = true then none else (h.get? a).map fun o => (a, o)
def rest (g h : Heap) (L d : Addr) : List (Addr × Obj) := (allNews g h L).filter fun p => decide (p.1 ≠ d)
end L2

namespace L2
open PySem PySem.Spec PyProof.Rows

structure Mod (K : PySem.W.Frag) (mg : Str → Option Value) (base : Heap) : Prop where
  kin : K.In base
  glob : base.Ns mainGlobals mg
  blt : ∃ mb, base.Ns builtinsNs mb ∧ ∀ x : Str, x ≠ "__name__" → mb x = bootBuiltins x
  nolimit : base.NoLimit

structure Cx where
  prog : Program
  w : World
  K : PySem.W.Frag
  mg : Str → Option Value
  base : Heap
  A : Around
  N : List Str
  s₀ : Shared
  H₀ : Hp
  env : Env
  outer : List Env
  stack : List Env
  ex : List Addr
  fn : Str → Bool
  calm : Bool
  pn : List (Addr × Obj)
  xe : Value → Shared → Prop
def frs (l : List Env) : List Addr := l.filterMap (·.frame)
abbrev Cx.fs (X : Cx) : List Addr := frs X.outer

def Vis (sc : Scope) (x : Str) : Prop := sc.names.lookup x = some .local ∨ sc.names.lookup x = some .cell ∨ sc.names.lookup x = some .free
def Loc (sc : Scope) (x : Str) : Prop := sc.names.lookup x = some .local ∨ sc.names.lookup x = some .cell
def Look (env : Env) (h : Heap) (m : Str → Option Value) (x : Str) (u : Value) : Prop :=
  (env.kindOf x = some .local ∧ m x = some u) ∨ ((env.kindOf x = some .cell ∨ env.kindOf x = some .free) ∧ ∃ c, env.cells.lookup x = some c ∧ h.IsCell c (some u))

structure Cx.Ok (X : Cx) : Prop where
  mod : Mod X.K X.mg X.base
  kind : X.env.scope.kind = .function
  glob : X.env.globals = mainGlobals
  blt : X.env.builtins = builtinsNs
  above : X.s₀.heap.objs.size ≤ X.env.locals
  inj : ∀ x y c, X.env.cells.lookup x = some c → X.env.cells.lookup y = some c → x = y
  has : ∀ x, (X.env.kindOf x = some .cell ∨ X.env.kindOf x = some .free) → ∃ c, X.env.cells.lookup x = some c
  cab : ∀ x c, X.fn x = true → X.env.cells.lookup x = some c → X.s₀.heap.objs.size ≤ c
  hd : X.calm = true → X.A.handled = none
  frames : X.A.frames = some X.stack
  stk : X.stack = X.outer ∨ (X.stack = X.env :: X.outer ∧ X.env.frame = some X.env.locals)
  exf : ∀ b ∈ X.ex, b ≠ X.env.locals ∧ ∀ x c, X.env.cells.lookup x = some c → c ≠ b
  bs : ∀ b o, X.base.get? b = some o → X.s₀.heap.get? b = some o ∧ X.H₀ b = none
  bsz : X.base.objs.size ≤ X.s₀.heap.objs.size
  noex : ∀ b o, X.base.get? b = some o → b ∉ X.ex
  exfs : ∀ b ∈ X.ex, b ∉ X.fs
  funs : X.s₀.heap.FunFrames X.base X.outer
  frf : ∀ b ∈ X.fs, X.H₀ b = none

structure Inv (X : Cx) (pins : List (Addr × Obj)) (σ : List (Option V)) (H : Hp) (s : Shared) : Prop where
  ok : X.Ok
  os : s.os = X.s₀.os
  bare : AllBare s.gens
  base : Un X.fs X.ex X.H₀ H X.s₀.heap s.heap
  loc : ∃ m, s.heap.Ns X.env.locals m ∧ ∀ (i : Nat) (x : Str) (v : V), X.N[i]? = some x → σ[i]? = some (some v) → Vis X.env.scope x → ∃ u, RelV v u ∧ Look X.env s.heap m x u
  cell : ∀ x c, X.env.cells.lookup x = some c → ∃ v, s.heap.IsCell c v
  free : H X.env.locals = none
  freeC : ∀ x c, X.env.cells.lookup x = some c → H c = none
  pin : ∀ p ∈ X.pn ++ pins, s.heap.get? p.1 = some p.2 ∧ H p.1 = none ∧ p.1 ≠ X.env.locals ∧ p.1 ∉ X.fs ∧ ∀ v, p.2.data ≠ .cell v
  hok : HOk X.prog X.w H s.heap
  len : σ.length = X.N.length

section
variable {X : Cx} {pins : List (Addr × Obj)} {σ : List (Option V)} {H H' : Hp} {s : Shared} {h' : Heap}

theorem Cx.Ok.nofr (ok : X.Ok) {b : Addr} {o : Obj} (e : X.base.get? b = some o) : b ∉ X.fs := fun hb => by
  have := (ok.funs.mem hb).1
  rw [e] at this; cases this
theorem Inv.bs (I : Inv X pins σ H s) : ∀ b o, X.base.get? b = some o → s.heap.get? b = some o ∧ H b = none := fun b o e =>
  ⟨I.base.keep b o (I.ok.bs b o e).1 (I.ok.bs b o e).2 (I.ok.nofr e) (I.ok.noex b o e), I.base.free b o (I.ok.bs b o e).1 (I.ok.bs b o e).2 (I.ok.noex b o e)⟩
theorem Inv.bk (I : Inv X pins σ H s) : ∀ b o, X.base.get? b = some o → s.heap.get? b = some o := fun b o e => (I.bs b o e).1
theorem Inv.mod (I : Inv X pins σ H s) : Mod X.K X.mg X.base := I.ok.mod
theorem Inv.kIn (I : Inv X pins σ H s) : X.K.In s.heap := I.ok.mod.kin.keeps I.bk
theorem Inv.nolimit (I : Inv X pins σ H s) : s.heap.NoLimit := I.ok.mod.nolimit.keeps I.bk
theorem Inv.fr (I : Inv X pins σ H s) : ∃ m, Fr X.base X.env.locals s.heap m :=
  let ⟨m, hn, _⟩ := I.loc
  ⟨m, hn, I.bk, Nat.le_trans I.ok.bsz I.ok.above⟩
theorem Inv.lt (I : Inv X pins σ H s) : X.env.locals < s.heap.objs.size := let ⟨_, hn, _⟩ := I.loc; hn.lt
theorem Inv.sz (I : Inv X pins σ H s) : X.s₀.heap.objs.size ≤ s.heap.objs.size := Nat.le_trans I.ok.above (Nat.le_of_lt I.lt)
theorem Inv.nofs (I : Inv X pins σ H s) {a : Addr} (h : s.heap.objs.size ≤ a) : a ∉ X.fs := fun hb => by
  obtain ⟨_, o, ho, _⟩ := I.ok.funs.mem hb
  exact absurd (Nat.lt_of_lt_of_le (Heap.lt_size ho) (Nat.le_trans I.sz h)) (Nat.lt_irrefl _)
theorem Inv.cne (I : Inv X pins σ H s) : ∀ x c, X.env.cells.lookup x = some c → c ≠ X.env.locals := fun x c e z => by
  obtain ⟨v, o, ho, hd⟩ := I.cell x c e
  obtain ⟨m, ⟨o', es, ep, ho', hd', _⟩, _⟩ := I.loc
  rw [z, ho'] at ho; cases ho; rw [hd'] at hd; cases hd
theorem Inv.funs (I : Inv X pins σ H s) : s.heap.FunFrames X.base X.outer := by
  have all : ∀ (l : List Env), (∀ b ∈ frs l, b ∈ X.fs) → X.s₀.heap.FunFrames X.base l → s.heap.FunFrames X.base l := by
    intro l
    induction l with
    | nil => intro _ _; trivial
    | cons env r ih =>
      intro hs hl
      obtain ⟨hk, ⟨L, o, hf, hn, ho, hd⟩, hr⟩ := hl
      have hL : L ∈ X.fs := hs L (by unfold frs; rw [List.filterMap_cons, hf]; exact List.mem_cons_self)
      obtain ⟨sl, e⟩ := I.base.slot L o ho (I.ok.frf L hL) hL fun z => I.ok.exfs L z hL
      exact ⟨hk, ⟨L, _, hf, hn, e, hd⟩, ih (fun b hb => hs b (by unfold frs; rw [List.filterMap_cons, hf]; exact List.mem_cons_of_mem _ hb)) hr⟩
  exact all X.outer (fun _ hb => hb) I.ok.funs

theorem Inv.stack (I : Inv X pins σ H s) : s.heap.FunFrames X.base X.stack := by
  rcases I.ok.stk with e | ⟨e, hf⟩
  · rw [e]; exact I.funs
  · rw [e]
    obtain ⟨m, hn, _⟩ := I.loc
    refine .cons (by rw [I.ok.kind]; decide) hf hn ?_ I.funs
    exact Heap.get?_none_of_le (Nat.le_trans I.ok.bsz I.ok.above)
theorem Inv.stkSub (I : Inv X pins σ H s) : ∀ b ∈ frs X.stack, b ∈ X.env.locals :: X.fs := fun b hb => by
  rcases I.ok.stk with e | ⟨e, hf⟩
  · rw [e] at hb; exact List.mem_cons_of_mem _ hb
  · rw [e] at hb
    unfold frs at hb
    rw [List.filterMap_cons, hf] at hb
    exact hb
theorem Inv.stkFree (I : Inv X pins σ H s) : ∀ b ∈ frs X.stack, H b = none := fun b hb => by
  rcases List.mem_cons.mp (I.stkSub b hb) with e | hb
  · rw [e]; exact I.free
  · obtain ⟨_, o, ho, _⟩ := I.ok.funs.mem hb
    exact I.base.free b o ho (I.ok.frf b hb) fun z => I.ok.exfs b z hb

theorem Inv.step {g' : Array GenState} {t' : Nat} {d' : Drawn} {ch : List Addr} (I : Inv X pins σ H s)
    (hch : ∀ b ∈ ch, (b ∈ X.ex ∨ X.s₀.heap.objs.size ≤ b) ∧ b ≠ X.env.locals ∧ (∀ x c, X.env.cells.lookup x = some c → c ≠ b) ∧ ∀ p ∈ X.pn ++ pins, p.1 ≠ b)
    (keep : ∀ b o, b ≠ X.env.locals → b ∉ X.fs → b ∉ ch → s.heap.get? b = some o → H b = none → h'.get? b = some o)
    (slot : ∀ b o, b ≠ X.env.locals → b ∈ X.fs → b ∉ ch → s.heap.get? b = some o → H b = none → ∃ sl, h'.get? b = some { o with slots := sl }) (free : ∀ b o, b ∉ ch → s.heap.get? b = some o → H b = none → H' b = none)
    (there : ∀ b o, b ∉ ch → s.heap.get? b = some o → ∃ o', h'.get? b = some o')
    (tups : ∀ b xs, H b = some (.tup xs) → H' b = some (.tup xs)) (frzs : ∀ b o u, H b = some (.frz o u) → H' b = some (.frz o u)) (tbls : ∀ b ps, H b = some (.tbl ps) → ∃ more, H' b = some (.tbl (ps ++ more)))
    (ns : ∀ m, s.heap.Ns X.env.locals m → h'.Ns X.env.locals m) (hok : HOk X.prog X.w H' h') (hg : AllBare g') :
    Inv X pins σ H' { s with heap := h', gens := g', drawn := d', toks := t' } := by
  have neL : ∀ b o, X.s₀.heap.get? b = some o → b ≠ X.env.locals := fun b o e => Nat.ne_of_lt (Nat.lt_of_lt_of_le (Heap.lt_size e) I.ok.above)
  have neC : ∀ b o, X.s₀.heap.get? b = some o → b ∉ X.ex → b ∉ ch := fun b o e hx hb => by
    rcases (hch b hb).1 with z | z
    · exact hx z
    · exact absurd (Nat.lt_of_lt_of_le (Heap.lt_size e) z) (Nat.lt_irrefl _)
  have cellK : ∀ x c, X.env.cells.lookup x = some c → ∀ v, s.heap.IsCell c v → h'.IsCell c v := fun x c e v ⟨o, ho, hd⟩ => by
    have nch : c ∉ ch := fun z => (hch c z).2.2.1 x c e rfl
    by_cases hc : c ∈ X.fs
    · obtain ⟨sl, q⟩ := slot c o (I.cne x c e) hc nch ho (I.freeC x c e)
      exact ⟨_, q, hd⟩
    · exact ⟨o, keep c o (I.cne x c e) hc nch ho (I.freeC x c e), hd⟩
  refine ⟨I.ok, I.os, hg, ⟨fun b o e n hb hx => ?_, fun b o e n hb hx => ?_, fun b o e n hx => ?_, fun b o e hx => ?_, fun b xs e => tups b xs (I.base.tups b xs e), fun b o xs e => frzs b o xs (I.base.frzs b o xs e), fun b ps e => ?_⟩, ?_, fun x c e => ?_, ?_, fun x c e => ?_, fun p hp => ?_, hok, I.len⟩
  · exact keep b o (neL b o e) hb (neC b o e hx) (I.base.keep b o e n hb hx) (I.base.free b o e n hx)
  · obtain ⟨sl, e1⟩ := I.base.slot b o e n hb hx
    obtain ⟨sl', e2⟩ := slot b _ (neL b o e) hb (neC b o e hx) e1 (I.base.free b o e n hx)
    exact ⟨sl', e2⟩
  · obtain ⟨o', e1⟩ := I.base.there b o e hx
    exact free b o' (neC b o e hx) e1 (I.base.free b o e n hx)
  · obtain ⟨o', e1⟩ := I.base.there b o e hx
    exact there b o' (neC b o e hx) e1
  · obtain ⟨m1, e1⟩ := I.base.tbls b ps e
    obtain ⟨m2, e2⟩ := tbls b _ e1
    exact ⟨m1 ++ m2, by rw [e2, Array.append_assoc]⟩
  · obtain ⟨m, hn, hl⟩ := I.loc
    refine ⟨m, ns m hn, fun i x v e1 e2 e3 => ?_⟩
    obtain ⟨u, r, l⟩ := hl i x v e1 e2 e3
    refine ⟨u, r, ?_⟩
    rcases l with l | ⟨k, c, e, z⟩
    · exact .inl l
    · exact .inr ⟨k, c, e, cellK x c e _ z⟩
  · obtain ⟨v, z⟩ := I.cell x c e
    exact ⟨v, cellK x c e v z⟩
  · obtain ⟨m, ⟨o, _, _, ho, _⟩, _⟩ := I.loc
    exact free _ o (fun z => (hch _ z).2.1 rfl) ho I.free
  · obtain ⟨v, o, ho, hd⟩ := I.cell x c e
    exact free c o (fun z => (hch c z).2.2.1 x c e rfl) ho (I.freeC x c e)
  · obtain ⟨e, n, ne, nf, d⟩ := I.pin p hp
    have nch : p.1 ∉ ch := fun z => (hch p.1 z).2.2.2 p hp rfl
    exact ⟨keep p.1 p.2 ne nf nch e n, free p.1 p.2 nch e n, ne, nf, d⟩
theorem Inv.un {t' : Nat} (I : Inv X pins σ H s) (u : Un X.fs [] H H' s.heap h') (hok : HOk X.prog X.w H' h') : Inv X pins σ H' { s with heap := h', toks := t' } := by
  obtain ⟨m, ⟨o, es, ep, ho, r⟩, _⟩ := id I.loc
  obtain ⟨sl, hL⟩ := u.any ho I.free (by simp)
  exact I.step (g' := s.gens) (d' := s.drawn) (ch := []) (fun _ z => nomatch z) (fun b o _ hb _ e n => u.keep b o e n hb (by simp)) (fun b o _ hb _ e n => u.slot b o e n hb (by simp)) (fun b o _ e n => u.free b o e n (by simp)) (fun b o _ e => u.there b o e (by simp)) u.tups u.frzs u.tbls (fun m' hm => by
    obtain ⟨o', es', ep', ho', r'⟩ := hm
    rw [ho] at ho'; cases ho'
    exact ⟨_, es', ep', hL, r'⟩) hok I.bare
theorem Inv.call {g' : Array GenState} {t' : Nat} {d' : Drawn} {ch : List Addr} (I : Inv X pins σ H s) (u : Un (frs X.stack) ch H H' s.heap h') (hok : HOk X.prog X.w H' h') (hg : AllBare g')
    (hch : ∀ b ∈ ch, (b ∈ X.ex ∨ X.s₀.heap.objs.size ≤ b) ∧ b ≠ X.env.locals ∧ (∀ x c, X.env.cells.lookup x = some c → c ≠ b) ∧ ∀ p ∈ X.pn ++ pins, p.1 ≠ b) :
    Inv X pins σ H' { s with heap := h', gens := g', drawn := d', toks := t' } := by
  obtain ⟨m, ⟨o, es, ep, ho, r⟩, _⟩ := id I.loc
  obtain ⟨sl, hL⟩ := u.any ho I.free fun z => (hch _ z).2.1 rfl
  exact I.step (ch := ch) hch (fun b o hL hb hc e n => u.keep b o e n (fun z => (List.mem_cons.mp (I.stkSub b z)).elim hL hb) hc) (fun b o _ _ hc e n => u.any e n hc) (fun b o hc e n => u.free b o e n hc) (fun b o hc e => u.there b o e hc) u.tups u.frzs u.tbls (fun m' hm => by
    obtain ⟨o', es', ep', ho', r'⟩ := hm
    rw [ho] at ho'; cases ho'
    exact ⟨_, es', ep', hL, r'⟩) hok hg
theorem Inv.turned {t' : Nat} {it : Addr} (I : Inv X pins σ H s) (k : ∀ b o, b ≠ it → s.heap.get? b = some o → h'.get? b = some o) (hn : H it = none) (hL : it ≠ X.env.locals)
    (h1 : it ∈ X.ex ∨ X.s₀.heap.objs.size ≤ it) (h2 : ∀ x c, X.env.cells.lookup x = some c → c ≠ it) (h3 : ∀ p ∈ X.pn ++ pins, p.1 ≠ it) : Inv X pins σ H { s with heap := h', toks := t' } := by
  have nit : ∀ b u, H b = some u → b ≠ it := fun b u e z => by rw [z, hn] at e; cases e
  refine I.step (g' := s.gens) (d' := s.drawn) (ch := [it]) (fun b hb => ?_) (fun b o _ _ hc e _ => k b o (fun z => hc (by simp [z])) e) (fun b o _ _ hc e _ => ⟨o.slots, k b o (fun z => hc (by simp [z])) e⟩) (fun _ _ _ _ n => n)
    (fun b o hc e => ⟨o, k b o (fun z => hc (by simp [z])) e⟩) (fun _ _ e => e) (fun _ _ _ e => e) (fun b ps e => ⟨#[], by rw [e]; simp⟩) (fun m hm => ?_) (fun b u e => ?_) I.bare
  · have e : b = it := by simpa using hb
    subst e
    exact ⟨h1, hL, h2, h3⟩
  · obtain ⟨o, es, ep, ho, r⟩ := hm
    exact ⟨o, es, ep, k _ o (Ne.symm hL) ho, r⟩
  · refine (I.hok b u e).stay (fun c v hc q => k c v ?_ q) (fun _ q => q) fun _ _ q => q
    rcases hc with z | z
    · rw [z]; exact nit b u e
    · exact nit c _ z
theorem Inv.tok (I : Inv X pins σ H s) (t : Nat) : Inv X pins σ H { s with toks := t } := I.un (h' := s.heap) (t' := t) Un.refl I.hok
theorem Inv.kept {t' : Nat} (I : Inv X pins σ H s) (k : ∀ b u, s.heap.get? b = some u → h'.get? b = some u) : Inv X pins σ H { s with heap := h', toks := t' } := I.un (Un.kept k) (I.hok.kept k)
theorem Inv.laid {a : Addr} {o : HO} {t' : Nat} (I : Inv X pins σ H s) (k : ∀ b u, s.heap.get? b = some u → h'.get? b = some u) (hp : s.heap.objs.size ≤ a) (new : ObjOk X.prog X.w (upd H a o) h' a o) :
    Inv X pins σ (upd H a o) { s with heap := h', toks := t' } := I.un (Un.laid k hp (I.hok.fresh hp)) (I.hok.laid k hp new)
theorem Inv.write {x e : Addr} {o : HO} {t' : Nat} (I : Inv X pins σ H s) (mu : Mut (H x)) (he : e = x ∨ H e = some (.own x)) (k : ∀ b u, b ≠ e → s.heap.get? b = some u → h'.get? b = some u) (heo : ∃ u, h'.get? e = some u)
    (new : ObjOk X.prog X.w (upd H x o) h' x o) : Inv X pins σ (upd H x o) { s with heap := h', toks := t' } := I.un (Un.write mu he k heo) (I.hok.write mu he k heo new)
theorem Inv.pins_of {pins' : List (Addr × Obj)} (I : Inv X pins σ H s) (h : ∀ p ∈ pins', s.heap.get? p.1 = some p.2 ∧ H p.1 = none ∧ p.1 ≠ X.env.locals ∧ p.1 ∉ X.fs ∧ ∀ v, p.2.data ≠ .cell v) : Inv X pins' σ H s :=
  ⟨I.ok, I.os, I.bare, I.base, I.loc, I.cell, I.free, I.freeC, fun p hp => (List.mem_append.mp hp).elim (fun z => I.pin p (List.mem_append_left _ z)) (h p), I.hok, I.len⟩

theorem nodup_ix {N : List Str} (hN : N.Nodup) {i j : Nat} {x : Str} (a : N[i]? = some x) (b : N[j]? = some x) : i = j := by
  obtain ⟨h1, e1⟩ := List.getElem?_eq_some_iff.mp a
  obtain ⟨h2, e2⟩ := List.getElem?_eq_some_iff.mp b
  exact (List.getElem_inj hN).mp (e1.trans e2.symm)

theorem store_ok2 {M : Model} {A : Around} {E : Value → Shared → Prop} {i : Nat} {x : Str} {v : V} {u : Value} {Q : Unit → Shared → Prop} (I : Inv X pins σ H s) (hN : X.N.Nodup) (hi : X.N[i]? = some x) (hx : Loc X.env.scope x) (r : RelV v u)
    (h : ∀ s', Inv X pins (σ.set i (some v)) H s' → (∃ a, Heap.SameBut a s.heap s'.heap ∧ (a = X.env.locals ∨ X.env.cells.lookup x = some a)) → Q () s') (hf : X.fn x = true ∨ X.env.scope.names.lookup x = some .local := by first | exact .inl rfl | exact .inr rfl | assumption) : wpAny M A (storeName X.env x u) Q E s := by
  obtain ⟨m, hn, hl⟩ := id I.loc
  have hcls : (X.env.scope.kind == .class || (X.env.scope.kind == .module && X.env.locals != X.env.globals)) = false := by rw [I.ok.kind]; rfl
  have hiσ : i < σ.length := by rw [I.len]; exact (List.getElem?_eq_some_iff.mp hi).1
  have cne := I.cne
  have tracked : ∀ {a : Addr} {h' : Heap}, (∃ o, s.heap.get? a = some o ∧ H a = none) → Heap.SameBut a s.heap h' → HOk X.prog X.w H h' := fun {a h'} ha hs b ob e => by
    obtain ⟨_, _, hfree⟩ := ha
    refine (I.hok b ob e).stay (fun c w' hc q => (hs.2 c ?_).trans q) (fun _ q => q) fun _ _ q => q
    rintro rfl
    rcases hc with rfl | hc
    · rw [hfree] at e; cases e
    · rw [hfree] at hc; cases hc
  rcases hx with hk | hk
  · refine wpAny_storeName_local hk hn (fun h' hn' hs => ?_) hcls
    obtain ⟨oL, _, _, hoL, _⟩ := id hn
    refine h _ ⟨I.ok, I.os, I.bare, ⟨fun b o e n hb hx => ?_, fun b o e n hb hx => ?_, I.base.free, fun b o e hx => ?_, I.base.tups, I.base.frzs, I.base.tbls⟩, ⟨_, hn', fun j y v' e1 e2 e3 => ?_⟩, fun y c e => ?_, I.free, I.freeC, fun p hp => ?_, tracked ⟨oL, hoL, I.free⟩ hs, by simpa using I.len⟩ ⟨_, hs, .inl rfl⟩
    · exact (hs.2 b (Nat.ne_of_lt (Nat.lt_of_lt_of_le (Heap.lt_size e) I.ok.above))).trans (I.base.keep b o e n hb hx)
    · obtain ⟨sl, e1⟩ := I.base.slot b o e n hb hx
      exact ⟨sl, (hs.2 b (Nat.ne_of_lt (Nat.lt_of_lt_of_le (Heap.lt_size e) I.ok.above))).trans e1⟩
    · obtain ⟨o', e1⟩ := I.base.there b o e hx
      exact ⟨o', (hs.2 b (Nat.ne_of_lt (Nat.lt_of_lt_of_le (Heap.lt_size e) I.ok.above))).trans e1⟩
    · by_cases hj : j = i
      · subst hj
        rw [hi] at e1; cases e1
        rw [List.getElem?_set_self hiσ] at e2
        cases e2
        exact ⟨u, r, .inl ⟨hk, by simp⟩⟩
      · rw [List.getElem?_set_ne (Ne.symm hj)] at e2
        obtain ⟨u', r', q⟩ := hl j y v' e1 e2 e3
        refine ⟨u', r', ?_⟩
        rcases q with ⟨k, e⟩ | ⟨k, c, e, z⟩
        · refine .inl ⟨k, ?_⟩
          have : y ≠ x := fun e => hj (nodup_ix hN e1 (e ▸ hi))
          simp [this, e]
        · exact .inr ⟨k, c, e, z.sameBut hs (cne y c e)⟩
    · obtain ⟨w', z⟩ := I.cell y c e
      exact ⟨w', z.sameBut hs (cne y c e)⟩
    · obtain ⟨e, n, ne, nf, d⟩ := I.pin p hp
      exact ⟨(hs.2 p.1 ne).trans e, n, ne, nf, d⟩
  · have hfn : X.fn x = true := by
      rcases hf with z | z
      · exact z
      · rw [z] at hk; cases hk
    obtain ⟨c, hc⟩ := I.ok.has x (.inl hk)
    obtain ⟨w', z⟩ := I.cell x c hc
    refine wpAny_storeName_cell I.ok.kind hk hc z (fun h' hc' hs => ?_)
    obtain ⟨oc, hoc, hocd⟩ := id z
    refine h { s with heap := h' } ⟨I.ok, I.os, I.bare, ⟨fun b o e n hb hx => ?_, fun b o e n hb hx => ?_, I.base.free, fun b o e hx => ?_, I.base.tups, I.base.frzs, I.base.tbls⟩, ⟨m, hn.sameBut hs (Ne.symm (cne x c hc)), fun j y v' e1 e2 e3 => ?_⟩, fun y c' e => ?_, I.free, I.freeC, fun p hp => ?_, tracked ⟨oc, hoc, I.freeC x c hc⟩ hs, by simpa using I.len⟩ ⟨c, hs, .inr hc⟩
    · exact (hs.2 b (Nat.ne_of_lt (Nat.lt_of_lt_of_le (Heap.lt_size e) (I.ok.cab x c hfn hc)))).trans (I.base.keep b o e n hb hx)
    · obtain ⟨sl, e1⟩ := I.base.slot b o e n hb hx
      exact ⟨sl, (hs.2 b (Nat.ne_of_lt (Nat.lt_of_lt_of_le (Heap.lt_size e) (I.ok.cab x c hfn hc)))).trans e1⟩
    · obtain ⟨o', e1⟩ := I.base.there b o e hx
      exact ⟨o', (hs.2 b (Nat.ne_of_lt (Nat.lt_of_lt_of_le (Heap.lt_size e) (I.ok.cab x c hfn hc)))).trans e1⟩
    · by_cases hj : j = i
      · subst hj
        rw [hi] at e1; cases e1
        rw [List.getElem?_set_self hiσ] at e2
        cases e2
        exact ⟨u, r, .inr ⟨.inl hk, c, hc, hc'⟩⟩
      · rw [List.getElem?_set_ne (Ne.symm hj)] at e2
        obtain ⟨u', r', q⟩ := hl j y v' e1 e2 e3
        refine ⟨u', r', ?_⟩
        rcases q with q | ⟨k, c', e, z'⟩
        · exact .inl q
        · refine .inr ⟨k, c', e, z'.sameBut hs ?_⟩
          rintro rfl
          exact hj (nodup_ix hN e1 (I.ok.inj _ _ _ e hc ▸ hi))
    · by_cases hcc : c' = c
      · subst hcc; exact ⟨_, hc'⟩
      · obtain ⟨w2, z2⟩ := I.cell y c' e
        exact ⟨w2, z2.sameBut hs hcc⟩
    · obtain ⟨e, n, ne, nf, d⟩ := I.pin p hp
      refine ⟨(hs.2 p.1 ?_).trans e, n, ne, nf, d⟩
      intro q
      rw [q, hoc] at e
      have q' : oc = p.2 := Option.some.inj e
      exact d w' (by rw [← q']; exact hocd)
theorem store_ok {M : Model} {A : Around} {E : Value → Shared → Prop} {i : Nat} {x : Str} {v : V} {u : Value} {Q : Unit → Shared → Prop} (I : Inv X pins σ H s) (hN : X.N.Nodup) (hi : X.N[i]? = some x) (hx : Loc X.env.scope x) (r : RelV v u)
    (h : ∀ s', Inv X pins (σ.set i (some v)) H s' → Q () s') (hf : X.fn x = true ∨ X.env.scope.names.lookup x = some .local := by first | exact .inl rfl | exact .inr rfl | assumption) : wpAny M A (storeName X.env x u) Q E s :=
  store_ok2 I hN hi hx r (fun s' I' _ => h s' I') hf
theorem Inv.call' {s' : Shared} {ch : List Addr} (I : Inv X pins σ H s) (ho : s'.os = s.os) (u : Un (frs X.stack) ch H H' s.heap s'.heap) (hok : HOk X.prog X.w H' s'.heap) (hg : AllBare s'.gens)
    (hch : ∀ b ∈ ch, (b ∈ X.ex ∨ X.s₀.heap.objs.size ≤ b) ∧ b ≠ X.env.locals ∧ (∀ x c, X.env.cells.lookup x = some c → c ≠ b) ∧ ∀ p ∈ X.pn ++ pins, p.1 ≠ b) : Inv X pins σ H' s' := by
  obtain ⟨h', g', d', t', o'⟩ := s'
  have e : o' = s.os := ho
  subst e
  exact I.call (g' := g') (t' := t') (d' := d') u hok hg hch
end

abbrev XK := Value → Option Addr → Hp → Prop
abbrev St := List (Option V)
abbrev VK := V → Hp → Prop
abbrev TE := St → Hp → VK → Prop
abbrev TT := St → Hp → (Bool → Hp → Prop) → Prop
abbrev TA := St → Hp → (List V → Hp → Prop) → Prop
structure Ends where
  nx : St → Hp → Prop
  rt : VK
  bk : St → Hp → Prop := fun _ _ => False
  ct : St → Hp → Prop := fun _ _ => False
abbrev TS := Ends → St → Hp → Prop

def EP (X : Cx) (pins : List (Addr × Obj)) (σ : St) (Q : VK) (u : Value) (s' : Shared) : Prop := ∃ v H', Inv X pins σ H' s' ∧ RelV v u ∧ Q v H'
def TP (X : Cx) (pins : List (Addr × Obj)) (σ : St) (Q : Bool → Hp → Prop) (b : Bool) (s' : Shared) : Prop := ∃ H', Inv X pins σ H' s' ∧ Q b H'
def AP (X : Cx) (pins : List (Addr × Obj)) (σ : St) (Q : List V → Hp → Prop) (us : List Value) (s' : Shared) : Prop := ∃ vs H', Inv X pins σ H' s' ∧ Vals vs us ∧ Q vs H'
def SP (X : Cx) (pins : List (Addr × Obj)) (D : Ends) (f : Flow) (s' : Shared) : Prop :=
  match f with
  | .next => ∃ σ' H', Inv X pins σ' H' s' ∧ D.nx σ' H'
  | .brk => ∃ σ' H', Inv X pins σ' H' s' ∧ D.bk σ' H'
  | .cont => ∃ σ' H', Inv X pins σ' H' s' ∧ D.ct σ' H'
  | .ret u => ∃ v σ' H', Inv X pins σ' H' s' ∧ RelV v u ∧ D.rt v H'

def PE (X : Cx) (e : Expr) (t : TE) : Prop :=
  ∀ (pins : List (Addr × Obj)) (s : Shared) (σ : St) (H : Hp) (Q : VK), Inv X pins σ H s → t σ H Q → wpAny (model X.prog X.w) X.A (eval e X.env) (EP X pins σ Q) X.xe s
def PT (X : Cx) (e : Expr) (t : TT) : Prop :=
  ∀ (pins : List (Addr × Obj)) (s : Shared) (σ : St) (H : Hp) (Q : Bool → Hp → Prop), Inv X pins σ H s → t σ H Q → wpAny (model X.prog X.w) X.A (isTrue e X.env (eval e X.env)) (TP X pins σ Q) X.xe s
def PW (X : Cx) (e : Expr) (t : TT) : Prop :=
  ∀ (whole : Sem Value) (pins : List (Addr × Obj)) (s : Shared) (σ : St) (H : Hp) (Q : Bool → Hp → Prop), Inv X pins σ H s → t σ H Q → wpAny (model X.prog X.w) X.A (isTrue e X.env whole) (TP X pins σ Q) X.xe s
theorem PW.pt {X : Cx} {e : Expr} {t : TT} (h : PW X e t) : PT X e t := h _
def PA (X : Cx) (es : List Expr) (t : TA) : Prop :=
  ∀ (pos : Pos) (pins : List (Addr × Obj)) (s : Shared) (σ : St) (H : Hp) (Q : List V → Hp → Prop), Inv X pins σ H s → t σ H Q → wpAny (model X.prog X.w) X.A (spliced (backTo pos (starEach es X.env))) (AP X pins σ Q) X.xe s
def PS (X : Cx) (st : Stmt) (t : TS) : Prop :=
  ∀ (pins : List (Addr × Obj)) (s : Shared) (σ : St) (H : Hp) (D : Ends), Inv X pins σ H s → t D σ H → wpAny (model X.prog X.w) X.A (exec st X.env) (SP X pins D) X.xe s
def PSs (X : Cx) (st : List Stmt) (t : TS) : Prop :=
  ∀ (pins : List (Addr × Obj)) (s : Shared) (σ : St) (H : Hp) (D : Ends), Inv X pins σ H s → t D σ H → wpAny (model X.prog X.w) X.A (execs st X.env) (SP X pins D) X.xe s
theorem thn {α : Type} {t : Sem α} {Q Q' : α → Shared → Prop} {M : Model} {A : Around} {E : Value → Shared → Prop} {s : Shared} (h : wpAny M A t Q E s) (hQ : ∀ a s, Q a s → Q' a s) : wpAny M A t Q' E s := wpAny_mono h hQ fun _ _ x => x
end L2

namespace L2
open PySem PySem.Spec PyProof.Rows
section
variable {X : Cx}


def tVar (i : Nat) : TE := fun σ H Q => ∃ v, σ[i]? = some (some v) ∧ Q v H
def tC (v : V) : TE := fun _ H Q => Q v H
theorem pe_var {i : Nat} {x : Str} {pos : Pos} (hN : X.N[i]? = some x) (hv : Vis X.env.scope x) (hd : (x == ("__debug__" : Str)) = false := by decide) (hcd : (x == ("__classdict__" : Str)) = false := by decide) : PE X (.Name x pos) (tVar i) := by
  intro pins s σ H Q I h
  obtain ⟨v, e, h⟩ := h
  obtain ⟨m, hn, hl⟩ := I.loc
  obtain ⟨u, r, l⟩ := hl i x v hN e hv
  have fin : EP X pins σ Q u s := ⟨v, H, I, r, h⟩
  rcases l with ⟨hk, hm⟩ | ⟨hk, c, hc, hcell⟩
  · exact wpAny_Name (wpAny_loadName_local I.ok.kind hk hn hm fin) hd
  · rcases hk with hk | hk
    · exact wpAny_Name (wpAny_loadName_cell I.ok.kind hk hc hcell fin) hd
    · exact wpAny_Name (wpAny_loadName_free I.ok.kind hk hc hcell fin hcd) hd
theorem pe_int {i j pos} : PE X (.Constant (.int i) j pos) (tC (.int i)) := fun _ _ _ H _ I h => wpAny_Constant_int ⟨.int i, H, I.tok _, ⟨_, rfl⟩, h⟩
theorem pe_bl {b j pos} : PE X (.Constant (.bool b) j pos) (tC (.bl b)) := fun _ _ _ H _ I h => Constant_bool ⟨.bl b, H, I, rfl, h⟩
theorem pe_non {j pos} : PE X (.Constant .none j pos) (tC .non) := fun _ _ _ H _ I h => Constant_none ⟨.non, H, I, rfl, h⟩
theorem pe_str {x j pos} : PE X (.Constant (.str x) j pos) (tC (.str x)) := fun _ _ _ H _ I h => Calls.Constant_str ⟨.str x, H, I.tok _, ⟨_, rfl⟩, h⟩

def Gl (X : Cx) (x : Str) : Prop := X.env.kindOf x = some .globalImplicit
theorem ld_glob {E : Value → Shared → Prop} {pins : List (Addr × Obj)} {s : Shared} {σ : St} {H : Hp} {x : Str} {u : Value} {pos : Pos} {Q : Value → Shared → Prop} (I : Inv X pins σ H s) (hg : Gl X x) (hm : X.mg x = some u) (h : Q u s)
    (hd : (x == ("__debug__" : Str)) = false := by decide) : wpAny (model X.prog X.w) X.A (eval (.Name x pos) X.env) Q E s :=
  Calls.Name_function_global I.ok.kind hg (Calls.loadGlobal_global (by rw [I.ok.glob]; exact I.mod.glob.keeps I.bk) hm h) hd
theorem ld_blt {E : Value → Shared → Prop} {pins : List (Addr × Obj)} {s : Shared} {σ : St} {H : Hp} {x : Str} {u : Value} {pos : Pos} {Q : Value → Shared → Prop} (I : Inv X pins σ H s) (hg : Gl X x) (hm : X.mg x = none) (hv : bootBuiltins x = some u) (h : Q u s)
    (hn : x ≠ "__name__" := by decide) (hd : (x == ("__debug__" : Str)) = false := by decide) : wpAny (model X.prog X.w) X.A (eval (.Name x pos) X.env) Q E s := by
  obtain ⟨mb, h1, h2⟩ := I.mod.blt
  exact Calls.Name_function_global I.ok.kind hg (Calls.loadGlobal_builtin (by rw [I.ok.glob]; exact I.mod.glob.keeps I.bk) hm (by rw [I.ok.blt]; exact h1.keeps I.bk) ((h2 x hn).trans hv) h) hd
theorem pe_glob {x : Str} {v : V} {u : Value} {pos : Pos} (hg : Gl X x) (hm : X.mg x = some u) (r : RelV v u) (hd : (x == ("__debug__" : Str)) = false := by decide) : PE X (.Name x pos) (tC v) :=
  fun _ _ _ H _ I h => ld_glob I hg hm ⟨v, H, I, r, h⟩ hd
theorem pe_bltn {x : Str} {v : V} {u : Value} {pos : Pos} (hg : Gl X x) (hm : X.mg x = none) (hv : bootBuiltins x = some u) (r : RelV v u) (hn : x ≠ "__name__" := by decide) (hd : (x == ("__debug__" : Str)) = false := by decide) : PE X (.Name x pos) (tC v) :=
  fun _ _ _ H _ I h => ld_blt I hg hm hv ⟨v, H, I, r, h⟩ hn hd

variable {a b : Expr} {ta tb : TE} {pos : Pos}

def PC (X : Cx) (op : CmpOp) (a b : Expr) (t : TE) : Prop :=
  ∀ (pins : List (Addr × Obj)) (s : Shared) (σ : St) (H : Hp) (Q : VK), Inv X pins σ H s → t σ H Q →
    wpAny (model X.prog X.w) X.A (eval a X.env) (fun v s₁ => wpAny (model X.prog X.w) X.A (eval b X.env) (fun u s₂ => wpAny (model X.prog X.w) X.A (compareOp op v u) (EP X pins σ Q) X.xe s₂) X.xe s₁) X.xe s
theorem nobehind (b : Expr) {op : CmpOp} (h : op ≠ .In) (h2 : op ≠ .NotIn) : behindInMarks op b = false := by
  have e1 : (op == CmpOp.In) = false := by cases op <;> first | rfl | exact absurd rfl h
  have e2 : (op == CmpOp.NotIn) = false := by cases op <;> first | rfl | exact absurd rfl h2
  cases b <;> simp [behindInMarks, e1, e2]
def tIsN (ta : TE) : TE := fun σ H Q => ta σ H fun x H1 => Q (.bl (decide (x = .non))) H1
def tNotN (ta : TE) : TE := fun σ H Q => ta σ H fun x H1 => Q (.bl (!decide (x = .non))) H1
theorem RelV.none_iff {x : V} {v : Value} (r : RelV x v) : (v == Value.none) = decide (x = .non) := by
  cases x with
  | non => cases r; rfl
  | bl _ => cases r; rfl
  | int _ => obtain ⟨t, rfl⟩ := r; rfl
  | str _ => obtain ⟨t, rfl⟩ := r; rfl
  | byt _ => obtain ⟨t, rfl⟩ := r; rfl
  | flt _ => obtain ⟨t, rfl⟩ := r; rfl
  | ref _ => cases r; rfl
  | ty _ => cases r; rfl
theorem pc_isN {j pos'} (ha : PE X a ta) : PC X .Is a (.Constant .none j pos') (tIsN ta) := by
  intro pins s σ H Q I h
  refine thn (ha pins s σ H _ I h) fun v s1 ⟨x, H1, I1, r1, q1⟩ => ?_
  exact Constant_none (is_none_gen ⟨.bl _, H1, I1, by rw [r1.none_iff]; rfl, q1⟩)
theorem pc_notN {j pos'} (ha : PE X a ta) : PC X .IsNot a (.Constant .none j pos') (tNotN ta) := by
  intro pins s σ H Q I h
  refine thn (ha pins s σ H _ I h) fun v s1 ⟨x, H1, I1, r1, q1⟩ => ?_
  exact Constant_none (isnot_none_gen ⟨.bl _, H1, I1, by rw [r1.none_iff]; rfl, q1⟩)
def tB (t : TE) : TT := fun σ H Q => t σ H fun x H1 => ∃ c, x = .bl c ∧ Q c H1
theorem pt_cmp {op : CmpOp} {t : TE} (h : PC X op a b t) (h1 : behindInMarks op b = false := by first | exact nobehind _ (by decide) (by decide) | rfl) : PT X (.Compare a [op] [b] pos) (tB t) := by
  intro pins s σ H Q I hw
  refine wpAny_isTrue_Compare1 (thn (h pins s σ H _ I hw) fun v s1 h1 => thn h1 fun u s2 h2 => thn h2 fun c s3 ⟨x, H1, I1, r1, q1⟩ => ?_) h1
  obtain ⟨d, rfl, q⟩ := q1
  cases r1
  exact wpAny_truthy_bool ⟨H1, I1, q⟩
theorem pt_val {e : Expr} {t : TE} (h : PE X e t) (he : ∀ whole, isTrue e X.env whole = (do let v ← whole; standAt e.pos; holding [v] (truthy v)) := by intro _; rfl) : PT X e (tB t) := by
  intro pins s σ H Q I hw
  refine isTrue_plain (thn (h pins s σ H _ I hw) fun v s1 ⟨x, H1, I1, r1, q1⟩ => ?_) (he _)
  obtain ⟨d, rfl, q⟩ := q1
  cases r1
  exact wpAny_truthy_bool ⟨H1, I1, q⟩

variable {tA tB' : TT} {rest : List Expr}
def tAnd (t u : TT) : TT := fun σ H Q => t σ H fun c H1 => if c = true then u σ H1 Q else Q false H1
def tOr (t u : TT) : TT := fun σ H Q => t σ H fun c H1 => if c = true then Q true H1 else u σ H1 Q
def tNot (t : TT) : TT := fun σ H Q => t σ H fun c H1 => Q (!c) H1
theorem pw_and1 (ha : PT X a tA) : PW X (.BoolOp .And [a] pos) tA := by
  intro wh pins s σ H Q I h
  refine isTrue_and (thn (ha pins s σ H Q I h) fun c s1 e => ?_)
  cases c with
  | true => exact isTrue_and_nil e
  | false => exact e
theorem pw_or1 (ha : PT X a tA) : PW X (.BoolOp .Or [a] pos) tA := by
  intro wh pins s σ H Q I h
  refine isTrue_or (thn (ha pins s σ H Q I h) fun c s1 e => ?_)
  cases c with
  | false => exact isTrue_or_nil e
  | true => exact e
theorem pw_and (ha : PT X a tA) (hb : PW X (.BoolOp .And (b :: rest) pos) tB') : PW X (.BoolOp .And (a :: b :: rest) pos) (tAnd tA tB') := by
  intro wh pins s σ H Q I h
  refine isTrue_and (thn (ha pins s σ H _ I h) fun c s1 ⟨H1, I1, q1⟩ => ?_)
  cases c with
  | true => exact hb wh pins s1 σ H1 Q I1 q1
  | false => exact ⟨H1, I1, q1⟩
theorem pw_or (ha : PT X a tA) (hb : PW X (.BoolOp .Or (b :: rest) pos) tB') : PW X (.BoolOp .Or (a :: b :: rest) pos) (tOr tA tB') := by
  intro wh pins s σ H Q I h
  refine isTrue_or (thn (ha pins s σ H _ I h) fun c s1 ⟨H1, I1, q1⟩ => ?_)
  cases c with
  | true => exact ⟨H1, I1, q1⟩
  | false => exact hb wh pins s1 σ H1 Q I1 q1
theorem pt_not (ha : PT X a tA) : PT X (.UnaryOp .Not a pos) (tNot tA) := by
  intro pins s σ H Q I h
  exact isTrue_not (ha pins s σ H (fun c H1 => Q (!c) H1) I h)
def tAndV (ta tb : TE) : TE := fun σ H Q => ta σ H fun x H1 => ∃ c, x = .bl c ∧ if c = true then tb σ H1 Q else Q (.bl false) H1
def tNotV (ta : TE) : TE := fun σ H Q => ta σ H fun x H1 => ∃ c, x = .bl c ∧ Q (.bl (!c)) H1
theorem pe_one {op} {t : TE} (h : PE X a t) : PE X (.BoolOp op [a] pos) t := fun pins s σ H Q I hw => BoolOp_one (h pins s σ H Q I hw)
theorem pe_and (ha : PE X a ta) (hb : PE X (.BoolOp .And (b :: rest) pos) tb) : PE X (.BoolOp .And (a :: b :: rest) pos) (tAndV ta tb) := by
  intro pins s σ H Q I h
  refine BoolOp_and (thn (ha pins s σ H _ I h) fun v s1 ⟨x, H1, I1, r1, q1⟩ => ?_)
  obtain ⟨c, rfl, q1⟩ := q1
  cases r1
  refine wpAny_truthy_bool ?_
  cases c with
  | true => exact hb pins s1 σ H1 Q I1 q1
  | false => exact ⟨.bl false, H1, I1, rfl, q1⟩
theorem pe_not (ha : PE X a ta) : PE X (.UnaryOp .Not a pos) (tNotV ta) := by
  intro pins s σ H Q I h
  refine UnaryOp_ (thn (ha pins s σ H _ I h) fun v s1 ⟨x, H1, I1, r1, q1⟩ => ?_)
  obtain ⟨c, rfl, q1⟩ := q1
  cases r1
  exact not_of (wpAny_truthy_bool ⟨.bl (!c), H1, I1, rfl, q1⟩)
def tIf (t : TT) (ta tb : TE) : TE := fun σ H Q => t σ H fun c H1 => if c = true then ta σ H1 Q else tb σ H1 Q
theorem pe_ifExp {c : Expr} (hc : PT X c tA) (ha : PE X a ta) (hb : PE X b tb) : PE X (.IfExp c a b pos) (tIf tA ta tb) := by
  intro pins s σ H Q I h
  refine wpAny_IfExp (thn (hc pins s σ H _ I h) fun d s1 ⟨H1, I1, q1⟩ => ?_)
  cases d with
  | true => exact ha pins s1 σ H1 Q I1 q1
  | false => exact hb pins s1 σ H1 Q I1 q1
end
end L2

namespace L2
open PySem PySem.Spec PyProof.Rows

def SqL (K : PySem.W.Frag) (H : Hp) (a : Addr) (xs : List V) : Prop :=
  Rd H a (.lst xs) ∨
    ∃ (o : Obj) (its : Array Value) (n : Nat), K.lookup a = some o ∧ o.cls = .type "list" ∧ o.dict = none ∧ o.data = .seq its n ∧ its.size ≤ sizeLine ∧ Vals xs its.toList
def SqT (K : PySem.W.Frag) (H : Hp) (a : Addr) (xs : List V) : Prop :=
  Rd H a (.tup xs) ∨
    ∃ (o : Obj) (its : Array Value) (n : Nat), K.lookup a = some o ∧ o.cls = .type "tuple" ∧ o.data = .seq its n ∧ its.size ≤ sizeLine ∧ Vals xs its.toList
def absV : Value → Option V
  | .none => some .non
  | .bool b => some (.bl b)
  | .int i _ => some (.int i)
  | .str x _ => some (.str x)
  | .bytes b _ => some (.byt b)
  | .float b _ => some (.flt b)
  | .ref a => some (.ref a)
  | .type n => some (.ty n)
  | _ => none
theorem RelV.abs {x : V} {u : Value} (r : RelV x u) : absV u = some x := by
  cases x with
  | non => cases r; rfl
  | bl _ => cases r; rfl
  | int _ => obtain ⟨t, rfl⟩ := r; rfl
  | str _ => obtain ⟨t, rfl⟩ := r; rfl
  | byt _ => obtain ⟨t, rfl⟩ := r; rfl
  | flt _ => obtain ⟨t, rfl⟩ := r; rfl
  | ref _ => cases r; rfl
  | ty _ => cases r; rfl
theorem RelV.inj {x y : V} {u : Value} (r : RelV x u) (q : RelV y u) : x = y := Option.some.inj (r.abs.symm.trans q.abs)
theorem Vals.inj : ∀ {xs ys : List V} {us : List Value}, Vals xs us → Vals ys us → xs = ys
  | _, _, _, .nil, .nil => rfl
  | _, _, _, .cons r t, .cons r' t' => by rw [r.inj r', Vals.inj t t']
section
variable {X : Cx} {pins : List (Addr × Obj)} {σ : St} {H : Hp} {s : Shared} {a : Addr} {xs ys : List V}
theorem SqL.of {K : PySem.W.Frag} (h : H a = some (.lst xs)) : SqL K H a xs := .inl (.inl h)
theorem SqT.of {K : PySem.W.Frag} (h : H a = some (.tup xs)) : SqT K H a xs := .inl (.inl h)
theorem Inv.list (I : Inv X pins σ H s) (h : SqL X.K H a xs) : ∃ its : List Value, Vals xs its ∧ PlainL s.heap a its.toArray ∧ xs.length ≤ sizeLine := by
  rcases h with h | ⟨o, its, n, hk, hc, hd, hs, hz, r⟩
  · obtain ⟨z, its, n, r, e⟩ := h.ok I.hok
    exact ⟨its, r, ⟨_, n, e, rfl, rfl, rfl⟩, z⟩
  · refine ⟨its.toList, r, ⟨o, n, I.kIn a o hk, hc, hd, by simpa using hs⟩, ?_⟩
    have e := r.length
    simp only [Array.length_toList] at e
    omega
theorem Inv.tuple (I : Inv X pins σ H s) (h : SqT X.K H a xs) : ∃ its : List Value, Vals xs its ∧ IsTup s.heap a its.toArray ∧ xs.length ≤ sizeLine := by
  rcases h with h | ⟨o, its, n, hk, hc, hs, hz, r⟩
  · obtain ⟨z, its, r, p⟩ := h.ok I.hok
    exact ⟨its, r, p, z⟩
  · refine ⟨its.toList, r, ⟨o, I.kIn a o hk, hc, n, by simpa using hs⟩, ?_⟩
    have e := r.length
    simp only [Array.length_toList] at e
    omega
theorem Inv.list_inj (I : Inv X pins σ H s) (h : SqL X.K H a xs) (h' : SqL X.K H a ys) : xs = ys := by
  obtain ⟨its, r, ⟨o, n, e, _, _, d⟩, _⟩ := I.list h
  obtain ⟨its', r', ⟨o', n', e', _, _, d'⟩, _⟩ := I.list h'
  rw [e] at e'; cases e'
  rw [d] at d'
  injection d' with d1 _
  have : its = its' := by simpa using congrArg Array.toList d1
  subst this
  exact r.inj r'
theorem Inv.tuple_inj (I : Inv X pins σ H s) (h : SqT X.K H a xs) (h' : SqT X.K H a ys) : xs = ys := by
  obtain ⟨its, r, ⟨o, e, _, n, d⟩, _⟩ := I.tuple h
  obtain ⟨its', r', ⟨o', e', _, n', d'⟩, _⟩ := I.tuple h'
  rw [e] at e'; cases e'
  rw [d] at d'
  injection d' with d1 _
  have : its = its' := by simpa using congrArg Array.toList d1
  subst this
  exact r.inj r'
end

abbrev Cx.wish (X : Cx) (E : Value → Shared → Prop) : Cx := { X with xe := E }
abbrev Cx.nox (X : Cx) : Cx := X.wish fun _ _ => False
theorem Cx.Ok.wish {X : Cx} (ok : X.Ok) (E : Value → Shared → Prop) : (X.wish E).Ok :=
  ⟨ok.mod, ok.kind, ok.glob, ok.blt, ok.above, ok.inj, ok.has, ok.cab, ok.hd, ok.frames, ok.stk, ok.exf, ok.bs, ok.bsz, ok.noex, ok.exfs, ok.funs, ok.frf⟩
theorem Cx.Ok.unwish {X : Cx} {E : Value → Shared → Prop} (ok : (X.wish E).Ok) : X.Ok :=
  ⟨ok.mod, ok.kind, ok.glob, ok.blt, ok.above, ok.inj, ok.has, ok.cab, ok.hd, ok.frames, ok.stk, ok.exf, ok.bs, ok.bsz, ok.noex, ok.exfs, ok.funs, ok.frf⟩
section
variable {X : Cx} {pins : List (Addr × Obj)} {σ : St} {H : Hp} {s : Shared} {E : Value → Shared → Prop}
theorem Inv.wish (I : Inv X pins σ H s) (E : Value → Shared → Prop) : Inv (X.wish E) pins σ H s := ⟨I.ok.wish E, I.os, I.bare, I.base, I.loc, I.cell, I.free, I.freeC, I.pin, I.hok, I.len⟩
theorem Inv.unwish (I : Inv (X.wish E) pins σ H s) : Inv X pins σ H s := ⟨I.ok.unwish, I.os, I.bare, I.base, I.loc, I.cell, I.free, I.freeC, I.pin, I.hok, I.len⟩
theorem SP.unwish {D : Ends} {f : Flow} {s' : Shared} (h : SP (X.wish E) pins D f s') : SP X pins D f s' := by
  cases f with
  | next => obtain ⟨σ', H', I, q⟩ := h; exact ⟨σ', H', I.unwish, q⟩
  | brk => obtain ⟨σ', H', I, q⟩ := h; exact ⟨σ', H', I.unwish, q⟩
  | cont => obtain ⟨σ', H', I, q⟩ := h; exact ⟨σ', H', I.unwish, q⟩
  | ret u => obtain ⟨v, σ', H', I, r, q⟩ := h; exact ⟨v, σ', H', I.unwish, r, q⟩
theorem PE.nox {e : Expr} {t : TE} (h : PE X.nox e t) : PE X e t := fun pins s σ H Q I hw =>
  wpAny_mono (h pins s σ H Q (I.wish _) hw) (fun _ _ ⟨v, H', I', r, q⟩ => ⟨v, H', I'.unwish, r, q⟩) fun _ _ z => False.elim z
theorem PT.nox {e : Expr} {t : TT} (h : PT X.nox e t) : PT X e t := fun pins s σ H Q I hw =>
  wpAny_mono (h pins s σ H Q (I.wish _) hw) (fun _ _ ⟨H', I', q⟩ => ⟨H', I'.unwish, q⟩) fun _ _ z => False.elim z
theorem PSs.nox {st : List Stmt} {t : TS} (h : PSs X.nox st t) : PSs X st t := fun pins s σ H D I hw =>
  wpAny_mono (h pins s σ H D (I.wish _) hw) (fun _ _ q => q.unwish) fun _ _ z => False.elim z
end

section
variable {X : Cx} {st : Stmt} {rest : List Stmt} {t u : TS} {e : Expr} {te : TE} {pos : Pos}
def tNext : TS := fun D σ H => D.nx σ H
def tSeq (t u : TS) : TS := fun D σ H => t { D with nx := u D } σ H
theorem pss_nil : PSs X [] tNext := fun _ _ σ H _ I h => wpAny_execs_nil ⟨σ, H, I, h⟩
theorem pss_cons (h1 : PS X st t) (h2 : PSs X rest u) : PSs X (st :: rest) (tSeq t u) := by
  intro pins s σ H D I h
  refine wpAny_execs_cons (thn (h1 pins s σ H { D with nx := u D } I h) fun f s1 q => ?_)
  cases f with
  | next =>
    obtain ⟨σ', H', I', q⟩ := q
    exact h2 pins s1 σ' H' D I' q
  | ret v => exact q
  | brk => exact q
  | cont => exact q
theorem pss_one (h1 : PS X st t) : PSs X [st] t := by
  intro pins s σ H D I h
  refine wpAny_execs_cons (thn (h1 pins s σ H D I h) fun f s1 q => ?_)
  cases f with
  | next => exact wpAny_execs_nil q
  | ret v => exact q
  | brk => exact q
  | cont => exact q
theorem Inv.quiet {pins : List (Addr × Obj)} {σ : St} {H : Hp} {s : Shared} (I : Inv X pins σ H s) : interactive X.env = false := by simp [interactive, I.ok.kind]
def tDrop (te : TE) : TS := fun D σ H => te σ H fun _ H1 => D.nx σ H1
theorem ps_expr (he : PE X e te) (hs : swapsWith e none pos.line X.env = pure false := by rfl) : PS X (.Expr e pos) (tDrop te) := by
  intro pins s σ H D I h
  exact wpAny_Expr_any (thn (he pins s σ H _ I h) fun v s1 ⟨x, H1, I1, r1, q1⟩ => ⟨σ, H1, I1, q1⟩) I.quiet hs
def tRet (te : TE) : TS := fun D σ H => te σ H D.rt
theorem ps_ret (he : PE X e te) : PS X (.Return (some e) pos) (tRet te) := by
  intro pins s σ H D I h
  exact wpAny_Return_some (thn (he pins s σ H _ I h) fun v s1 ⟨x, H1, I1, r1, q1⟩ => ⟨x, σ, H1, I1, r1, q1⟩)
def tIfS (c : TT) (t u : TS) : TS := fun D σ H => c σ H fun b H1 => if b = true then t D σ H1 else u D σ H1
theorem ps_if {c : Expr} {a b : List Stmt} {tc : TT} (hc : PT X c tc) (ha : PSs X a t) (hb : PSs X b u) : PS X (.If c a b pos) (tIfS tc t u) := by
  intro pins s σ H D I h
  refine wpAny_If (thn (hc pins s σ H _ I h) fun d s1 ⟨H1, I1, q1⟩ => ?_)
  cases d with
  | true => exact ha pins s1 σ H1 D I1 q1
  | false => exact hb pins s1 σ H1 D I1 q1
def tNever : TS := fun _ _ _ => False
theorem ps_never : PS X st tNever := fun _ _ _ _ _ _ h => h.elim
end

abbrev TG := V → St → Hp → (St → Hp → Prop) → Prop
abbrev TGs := List V → St → Hp → (St → Hp → Prop) → Prop
def PG (X : Cx) (target : Expr) (t : TG) : Prop :=
  ∀ (pins : List (Addr × Obj)) (s : Shared) (σ : St) (H : Hp) (v : V) (u : Value) (Q : St → Hp → Prop), Inv X pins σ H s → RelV v u → t v σ H Q →
    wpAny (model X.prog X.w) X.A (assign target X.env u) (fun _ s' => ∃ σ' H', Inv X pins σ' H' s' ∧ Q σ' H') X.xe s
def PGs (X : Cx) (ts : List Expr) (t : TGs) : Prop :=
  ∀ (pins : List (Addr × Obj)) (s : Shared) (σ : St) (H : Hp) (vs : List V) (us : List Value) (Q : St → Hp → Prop), Inv X pins σ H s → Vals vs us → t vs σ H Q →
    wpAny (model X.prog X.w) X.A (assignInOrder ((assignEach ts X.env).map (·.2)) us) (fun _ s' => ∃ σ' H', Inv X pins σ' H' s' ∧ Q σ' H') X.xe s
abbrev TSet := V → V → V → Hp → (Hp → Prop) → Prop
def PSet (X : Cx) (t : TSet) : Prop :=
  ∀ (pins : List (Addr × Obj)) (s : Shared) (σ : St) (H : Hp) (o i v : V) (ov iv u : Value) (Q : Hp → Prop), Inv X pins σ H s → RelV o ov → RelV i iv → RelV v u → t o i v H Q →
    wpAny (model X.prog X.w) X.A (setItem ov iv u) (fun _ s' => ∃ H', Inv X pins σ H' s' ∧ Q H') X.xe s
abbrev TIp := V → V → Hp → VK → Prop
def PIp (X : Cx) (op : Operator) (t : TIp) : Prop :=
  ∀ (pins : List (Addr × Obj)) (s : Shared) (σ : St) (H : Hp) (x y : V) (v u : Value) (Q : VK), Inv X pins σ H s → RelV x v → RelV y u → t x y H Q →
    wpAny (model X.prog X.w) X.A (inplaceOp op v u) (EP X pins σ Q) X.xe s
section
variable {X : Cx} {pos : Pos}
def gName (i : Nat) : TG := fun v σ H Q => Q (σ.set i (some v)) H
theorem pg_name {i : Nat} {x : Str} (hN : X.N.Nodup) (hi : X.N[i]? = some x) (hx : Loc X.env.scope x) (hf : X.fn x = true ∨ X.env.scope.names.lookup x = some .local := by first | exact .inl rfl | exact .inr rfl | assumption) : PG X (.Name x pos) (gName i) := by
  intro pins s σ H v u Q I r h
  exact wpAny_assign_Name (store_ok I hN hi hx r (fun s' I' => ⟨_, H, I', h⟩) hf)
def gNil : TGs := fun vs σ H Q => vs = [] ∧ Q σ H
def gCons (t : TG) (u : TGs) : TGs := fun vs σ H Q => ∃ v r, vs = v :: r ∧ t v σ H fun σ' H' => u r σ' H' Q
theorem pgs_nil : PGs X [] gNil := by
  intro pins s σ H vs us Q I r h
  obtain ⟨e, h⟩ := h
  subst e
  cases r
  exact assignInOrder_nil ⟨σ, H, I, h⟩
theorem pgs_cons {e : Expr} {es : List Expr} {t : TG} {u : TGs} (h1 : PG X e t) (h2 : PGs X es u)
    (hs : (assignEach (e :: es) X.env).map (·.2) = assign e X.env :: (assignEach es X.env).map (·.2) := by rfl) : PGs X (e :: es) (gCons t u) := by
  intro pins s σ H vs us Q I r h
  obtain ⟨v, vr, e1, h⟩ := h
  subst e1
  cases r with
  | cons r rr =>
    rw [hs]
    refine assignInOrder_cons (thn (h1 pins s σ H _ _ _ I r h) fun _ s1 ⟨σ1, H1, I1, q1⟩ => ?_)
    exact h2 pins s1 σ1 H1 _ _ Q I1 rr q1
def gTup (K : PySem.W.Frag) (n : Nat) (t : TGs) : TG := fun v σ H Q => ∃ a xs, v = .ref a ∧ SqT K H a xs ∧ xs.length = n ∧ t xs σ H Q
theorem pg_tup {es : List Expr} {k : Nat} {t : TGs} {n : Nat} (hc : X.calm = true) (h : PGs X es t)
    (hn : (assignEach es X.env).length = n := by rfl) (hst : (assignEach es X.env).findIdx? (·.1) = none := by rfl) : PG X (.Tuple es k pos) (gTup X.K n t) := by
  intro pins s σ H v u Q I r hw
  obtain ⟨a, xs, e1, hq, hl, hw⟩ := hw
  subst e1
  cases r
  obtain ⟨its, rv, ht, hz⟩ := I.tuple hq
  refine assign_Tuple_tuple (I.ok.hd hc) ht (by simp [hn, ← hl, rv.length]) hst fun h' hx => ?_
  have I1 : Inv X pins σ H { s with heap := h' } := I.kept (t' := s.toks) fun b o e => hx b o (Nat.ne_of_lt (Heap.lt_size e)) e
  exact h pins _ σ H xs _ Q I1 (by simpa using rv) hw
def gSub (to ti : TE) (t : TSet) : TG := fun v σ H Q => to σ H fun o H1 => ti σ H1 fun i H2 => t o i v H2 fun H3 => Q σ H3
theorem pg_sub {o i : Expr} {to ti : TE} {t : TSet} (ho : PE X o to) (hi : PE X i ti) (hs : PSet X t)
    (ha : ∀ v, assign (.Subscript o i pos) X.env v = (do
      let ov ← holding [v] (eval o X.env)
      let iv ← holding [v, ov] (eval i X.env)
      standAt pos
      holding [v, ov, iv] (setItem ov iv v)
      release [v, ov, iv] []) := by intro _; rfl) : PG X (.Subscript o i pos) (gSub to ti t) := by
  intro pins s σ H v u Q I r h
  rw [ha]
  refine wpAny_bind (wpAny_holding (thn (ho pins s σ H _ I h) fun ov s1 ⟨x, H1, I1, r1, q1⟩ => ?_))
  refine wpAny_bind (wpAny_holding (thn (hi pins s1 σ H1 _ I1 q1) fun iv s2 ⟨y, H2, I2, r2, q2⟩ => ?_))
  refine wpAny_bind (wpAny_standAt (wpAny_bind (wpAny_holding (thn (hs pins s2 σ H2 x y v ov iv u _ I2 r1 r2 r q2) fun _ s3 ⟨H3, I3, q3⟩ => ?_))))
  exact wpAny_release ⟨σ, H3, I3, q3⟩
def tAsg (te : TE) (g : TG) : TS := fun D σ H => te σ H fun x H1 => g x σ H1 D.nx
theorem ps_asg {tg e : Expr} {te : TE} {g : TG} (he : PE X e te) (hg : PG X tg g) (hs : swapsWithSole [tg] e pos.line X.env = pure false := by rfl) (hw : swappedStores [tg] e X.env = pure none := by rfl)
    (h1 : (assignEach [tg] X.env).map (·.2) = [assign tg X.env] := by rfl) : PS X (.Assign [tg] e pos) (tAsg te g) := by
  intro pins s σ H D I h
  refine wpAny_Assign_stores (thn (he pins s σ H _ I h) fun v s1 ⟨x, H1, I1, r1, q1⟩ => ?_) hs hw
  rw [h1]
  exact thn (hg pins s1 σ H1 x v _ I1 r1 q1) fun _ s2 q => q
theorem ps_set {i : Nat} {x : Str} {e : Expr} {te : TE} {pos' : Pos} (hN : X.N.Nodup) (hi : X.N[i]? = some x) (hx : Loc X.env.scope x) (he : PE X e te) (hs : swapsWith e (some (.Name x pos')) pos.line X.env = pure false := by rfl) (hf : X.fn x = true ∨ X.env.scope.names.lookup x = some .local := by first | exact .inl rfl | exact .inr rfl | assumption) :
    PS X (.Assign [.Name x pos'] e pos) (tAsg te (gName i)) := by
  intro pins s σ H D I h
  refine wpAny_Assign_Name (thn (he pins s σ H _ I h) fun v s1 ⟨y, H1, I1, r1, q1⟩ => ?_) hs
  exact store_ok I1 hN hi hx r1 (fun s2 I2 => ⟨_, H1, I2, q1⟩) hf
def tPar (i j : Nat) (ta : TA) : TS := fun D σ H => ta σ H fun vs H1 => ∃ v w, vs = [v, w] ∧ D.nx ((σ.set i (some v)).set j (some w)) H1
theorem ps_par {i j : Nat} {x y : Str} {a b : Expr} {ta : TA} {px py pt : Pos} {kt k2 pt2} (hc : X.calm = true) (hN : X.N.Nodup) (hi : X.N[i]? = some x) (hj : X.N[j]? = some y) (hij : i ≠ j)
    (hx : X.env.scope.names.lookup x = some .local) (hy : X.env.scope.names.lookup y = some .local) (ha : PA X [a, b] ta)
    (hw : swappedStores [.Tuple [.Name x px, .Name y py] kt pt] (.Tuple [a, b] k2 pt2) X.env = pure (some [x, y]))
    (hs : swapsWithSole [.Tuple [.Name x px, .Name y py] kt pt] (.Tuple [a, b] k2 pt2) pos.line X.env = pure false := by rfl) :
    PS X (.Assign [.Tuple [.Name x px, .Name y py] kt pt] (.Tuple [a, b] k2 pt2) pos) (tPar i j ta) := by
  intro pins s σ H D I h
  rw [exec_Assign_arm]
  refine wpAny_bind (wpAny_standAt ?_)
  rw [hs]
  refine wpAny_bind (wpAny_pure ?_)
  rw [if_neg (by decide)]
  refine wpAny_bind (Tuple_ (thn (ha _ pins s σ H _ I h) fun us s1 ⟨vs, H1, I1, r1, q1⟩ => ?_))
  obtain ⟨v, w, e1, q1⟩ := q1
  subst e1
  obtain ⟨u1, u2, rfl, rv, rw'⟩ : ∃ u1 u2, us = [u1, u2] ∧ RelV v u1 ∧ RelV w u2 := by
    cases r1 with
    | cons p q =>
      cases q with
      | cons p' q' =>
        cases q'
        exact ⟨_, _, rfl, p, p'⟩
  refine wpAny_newObj_type ?_ (by show 2 ≤ sizeLine; decide)
  have I2 : Inv X pins σ H1 { s1 with heap := s1.heap.push { cls := .type "tuple", data := .seq [u1, u2].toArray } } := I1.kept (t' := s1.toks) fun b o e => Heap.get?_push_of_some _ e
  rw [hw]
  refine wpAny_bind (wpAny_pure ?_)
  show wpAny (model X.prog X.w) X.A (do rule "assign.swapped-stores"; let items ← unpackItems (.ref s1.heap.objs.size) 2 none; assignInOrder [fun v => bindName X.env y v, fun v => bindName X.env x v] items.reverse; pure Flow.next) _ _ _
  refine wpAny_bind (wpAny_rule (wpAny_bind (unpackItems_tuple (items := #[u1, u2]) (I.ok.hd hc) (IsTup.new s1.heap _) fun h' hx' => ?_)))
  have I3 := I2.kept (h' := h') (t' := s1.toks) fun b o e => hx' b o (Nat.ne_of_lt (Heap.lt_size e)) e
  show wpAny _ _ (assignInOrder [fun v => bindName X.env y v, fun v => bindName X.env x v] [u2, u1] >>= fun _ => pure Flow.next) _ _ _
  refine wpAny_bind (assignInOrder_cons (wpAny_bindName (store_ok I3 hN hj (.inl hy) rw' (fun s2 I4 => ?_) (.inr hy))))
  refine assignInOrder_cons (wpAny_bindName (store_ok I4 hN hi (.inl hx) rv (fun s3 I5 => assignInOrder_nil (wpAny_pure ?_)) (.inr hx)))
  rw [List.set_comm _ _ (Ne.symm hij)] at I5
  exact ⟨_, H1, I5, q1⟩
def tAugS (to ti te : TE) (tget : V → V → Hp → VK → Prop) (tip : TIp) (tset : TSet) : TS := fun D σ H => to σ H fun o H1 => ti σ H1 fun i H2 => tget o i H2 fun x H3 => te σ H3 fun y H4 => tip x y H4 fun z H5 => tset o i z H5 fun H6 => D.nx σ H6
def PGet (X : Cx) (t : V → V → Hp → VK → Prop) : Prop :=
  ∀ (pins : List (Addr × Obj)) (s : Shared) (σ : St) (H : Hp) (o i : V) (ov iv : Value) (Q : VK), Inv X pins σ H s → RelV o ov → RelV i iv → t o i H Q →
    wpAny (model X.prog X.w) X.A (getItem ov iv) (EP X pins σ Q) X.xe s
theorem ps_augS {o i e : Expr} {to ti te : TE} {tget : V → V → Hp → VK → Prop} {tip : TIp} {tset : TSet} {op : Operator} {tpos : Pos} (ho : PE X o to) (hi : PE X i ti) (hg : PGet X tget) (he : PE X e te) (hp : PIp X op tip) (hs : PSet X tset)
    (ha : ∀ ov iv new, augStore i ov iv new = (do holding [new, ov, iv] (setItem ov iv new); release [new, ov, iv] []; pure .next) := by intros; rfl) : PS X (.AugAssign (.Subscript o i tpos) op e pos) (tAugS to ti te tget tip tset) := by
  intro pins s σ H D I h
  refine wpAny_AugAssign_SubscriptAny (thn (ho pins s σ H _ I h) fun ov s1 ⟨x1, H1, I1, r1, q1⟩ => ?_) ha
  refine thn (hi pins s1 σ H1 _ I1 q1) fun iv s2 ⟨x2, H2, I2, r2, q2⟩ => ?_
  refine thn (hg pins s2 σ H2 x1 x2 ov iv _ I2 r1 r2 q2) fun old s3 ⟨x3, H3, I3, r3, q3⟩ => ?_
  refine thn (he pins s3 σ H3 _ I3 q3) fun v s4 ⟨x4, H4, I4, r4, q4⟩ => ?_
  refine thn (hp pins s4 σ H4 x3 x4 old v _ I4 r3 r4 q4) fun new s5 ⟨x5, H5, I5, r5, q5⟩ => ?_
  exact thn (hs pins s5 σ H5 x1 x2 x5 ov iv new _ I5 r1 r2 r5 q5) fun _ s6 ⟨H6, I6, q6⟩ => ⟨σ, H6, I6, q6⟩
def ipI (f : Int → Int → Int) : TIp := fun x y H Q => ∃ i j, x = .int i ∧ y = .int j ∧ Q (.int (f i j)) H
theorem ip_add : PIp X .Add (ipI fun i j => i + j) := by
  intro pins s σ H x y v u Q I r1 r2 h
  obtain ⟨i, j, e1, e2, q⟩ := h
  subst e1; subst e2
  obtain ⟨t, rfl⟩ := r1
  obtain ⟨t', rfl⟩ := r2
  exact iadd_int ⟨.int _, H, I.tok _, ⟨_, rfl⟩, q⟩
end

section
variable {X : Cx} {pos : Pos}
end

structure It where
  go : Nat → Hp → Prop
  yld : Nat → Hp → V → Hp → Prop
  stop : Nat → Hp → Prop
def FpOk (X : Cx) (pins : List (Addr × Obj)) (H : Hp) (b : Addr) : Prop :=
  H b = none ∧ b ≠ X.env.locals ∧ b ∉ X.fs ∧ (b ∈ X.ex ∨ X.s₀.heap.objs.size ≤ b) ∧ (∀ x c, X.env.cells.lookup x = some c → c ≠ b) ∧ ∀ p ∈ X.pn ++ pins, p.1 ≠ b
theorem Inv.fpOk {X : Cx} {pins : List (Addr × Obj)} {σ : St} {H H' : Hp} {s : Shared} {b : Addr} (I : Inv X pins σ H s) (hb : s.heap.objs.size ≤ b) (hn : H' b = none) : FpOk X pins H' b := by
  refine ⟨hn, Nat.ne_of_gt (Nat.lt_of_lt_of_le I.lt hb), I.nofs hb, .inr (Nat.le_trans I.sz hb), fun x c e z => ?_, fun p hp z => ?_⟩
  · obtain ⟨v, q⟩ := I.cell x c e
    exact absurd (Nat.lt_of_lt_of_le q.lt (by rw [z]; exact hb)) (Nat.lt_irrefl _)
  · exact absurd (Nat.lt_of_lt_of_le (Heap.lt_size (I.pin p hp).1) (by rw [z]; exact hb)) (Nat.lt_irrefl _)
structure Turn (P : Program) (w : World) (K : PySem.W.Frag) (tg : Expr) (J : It) (fp : List Addr) (it : Addr) (tn : Nat → Heap → Prop) : Prop where
  mem : it ∈ fp
  obj : ∀ i h, tn i h → ∀ b ∈ fp, ∃ o, h.get? b = some o ∧ ∀ v, o.data ≠ .cell v
  keep : ∀ i h h', tn i h → (∀ b ∈ fp, ∀ o, h.get? b = some o → h'.get? b = some o) → tn i h'
  item : ∀ (X : Cx), X.prog = P → X.w = w → X.K = K → X.calm = true → ∀ (i : Nat) (pins : List (Addr × Obj)) (s : Shared) (σ : St) (H : Hp) (E : Value → Shared → Prop), Inv X pins σ H s → (∀ b ∈ fp, FpOk X pins H b) → tn i s.heap → J.go i H →
    wpAny (model P w) X.A (pyNext (.ref it)) (fun r s1 => ∃ u, r = some u ∧
      wpAny (model P w) X.A (letOwnedTupleGo tg (.ref it) u) (fun _ s2 => ∃ x H', Inv X pins σ H' s2 ∧ RelV x u ∧ J.yld i H x H' ∧ tn (i + 1) s2.heap ∧ ∀ b ∈ fp, H' b = none) E s1) E s
  done : ∀ (X : Cx), X.prog = P → X.w = w → X.K = K → X.calm = true → ∀ (i : Nat) (pins : List (Addr × Obj)) (s : Shared) (σ : St) (H : Hp) (E : Value → Shared → Prop), Inv X pins σ H s → (∀ b ∈ fp, FpOk X pins H b) → tn i s.heap → J.stop i H →
    wpAny (model P w) X.A (pyNext (.ref it)) (fun r s1 => r = none ∧ Inv X pins σ H s1) E s
  self : ∀ (A : Around) (i : Nat) (s : Shared) (Q : Value → Shared → Prop) (E : Value → Shared → Prop), tn i s.heap → Q (.ref it) s → wpAny (model P w) A (pyIter (.ref it)) Q E s
abbrev TI := St → Hp → (It → Hp → Prop) → Prop
def PIE (X : Cx) (pins : List (Addr × Obj)) (σ : St) (tg : Expr) (R : It → Hp → Prop) (itv : Value) (s2 : Shared) : Prop :=
  ∃ (it : Addr) (fp : List Addr) (tn : Nat → Heap → Prop) (J : It) (H' : Hp), itv = .ref it ∧ Inv X pins σ H' s2 ∧ Turn X.prog X.w X.K tg J fp it tn ∧ tn 0 s2.heap ∧ (∀ b ∈ fp, FpOk X pins H' b) ∧ R J H'
def PI (X : Cx) (tg iter : Expr) (wi : TI) : Prop :=
  ∀ (pins : List (Addr × Obj)) (s : Shared) (σ : St) (H : Hp) (R : It → Hp → Prop), Inv X pins σ H s → wi σ H R →
    wpAny (model X.prog X.w) X.A (eval iter X.env) (fun v s1 => wpAny (model X.prog X.w) X.A (pyIter v) (PIE X pins σ tg R) X.xe s1) X.xe s

theorem go_of {M : Model} {A : Around} {E : Value → Shared → Prop} {s : Shared} {tg : Expr} {it : Addr} {u : Value} {o : Obj} {n : String} {vs : Array Value} {Q : Unit → Shared → Prop} (ho : s.heap.get? it = some o) (hc : o.cls = .type n) (hd : o.data = .fields vs)
    (hn : ["enumerate", "zip", "dict_itemiterator", "dict_reverseitemiterator", "odict_iterator", "itertools.zip_longest", "itertools.pairwise"].contains n = false) (hQ : Q () s) : wpAny M A (letOwnedTupleGo tg (.ref it) u) Q E s := by
  unfold letOwnedTupleGo
  cases tg <;> first
    | exact wpAny_pure hQ
    | (cases u <;> first
        | exact wpAny_pure hQ
        | (refine wpAny_bind (wpAny_load ho ?_)
           rw [hc, hd]
           show wpAny M A (if (["enumerate", "zip", "dict_itemiterator", "dict_reverseitemiterator", "odict_iterator", "itertools.zip_longest", "itertools.pairwise"].contains n && vs[0]? == some (rawInt _)) = true then _ else _) Q E s
           rw [if_neg (by intro h; rw [hn, Bool.false_and] at h; cases h)]
           exact wpAny_pure hQ))

def Itl (K : PySem.W.Frag) (a : Addr) : It :=
  ⟨fun i H => ∃ xs x, SqL K H a xs ∧ xs[i]? = some x, fun i H x H' => H' = H ∧ ∀ xs, SqL K H a xs → xs[i]? = some x, fun i H => ∃ xs, SqL K H a xs ∧ xs.length ≤ i⟩
def Itr (lo : Int) (n : Nat) : It := ⟨fun i _ => i < n, fun i H x H' => H' = H ∧ x = .int (lo + i), fun i _ => n ≤ i⟩
theorem turn_list {P : Program} {w : World} {K : PySem.W.Frag} {tg : Expr} (a it : Addr) : Turn P w K tg (Itl K a) [it] it (fun i h => h.IsListIter it a i) where
  mem := by simp
  obj := fun i h st b hb => by
    have e : b = it := by simpa using hb
    subst e
    obtain ⟨o, e, c, d⟩ := st
    exact ⟨o, e, fun v z => by rw [d] at z; cases z⟩
  keep := fun i h h' st k => st.at fun o e => k it (by simp) o e
  item := by
    intro X hP hw hK hc i pins s σ H E I hf st hg
    subst hP hw hK
    obtain ⟨xs, x, hq, hx⟩ := hg
    obtain ⟨its, rv, p, hz⟩ := I.list hq
    obtain ⟨u, hu, ru⟩ := rv.get hx
    obtain ⟨f0, f1, f2, f3, f4, f5⟩ := hf it (by simp)
    refine wpAny_pyNext_list_item st p.isList (x := u) (by simpa using hu) fun h' st' sb => ?_
    have I1 : Inv X pins σ H { s with heap := h' } := I.turned (t' := s.toks) (fun b o hb e => (sb.2 b hb).trans e) f0 f1 f3 f4 f5
    obtain ⟨o, e, c, d⟩ := id st'
    exact ⟨u, rfl, go_of (s := { s with heap := h' }) e c d (by decide) ⟨x, H, I1, ru, ⟨rfl, fun ys hy => by rw [I.list_inj hy hq]; exact hx⟩, st', fun b hb => (hf b hb).1⟩⟩
  done := by
    intro X hP hw hK hc i pins s σ H E I hf st hg
    subst hP hw hK
    obtain ⟨xs, hq, hx⟩ := hg
    obtain ⟨its, rv, p, hz⟩ := I.list hq
    obtain ⟨f0, f1, f2, f3, f4, f5⟩ := hf it (by simp)
    have hl := rv.length
    exact wpAny_pyNext_list_end (I.ok.hd hc) st p.isList (by simp; omega) fun h' eb => ⟨rfl, I.turned (t' := s.toks) (fun b o hb e => eb b o hb e) f0 f1 f3 f4 f5⟩
  self := fun _ _ _ _ _ st h => wpAny_pyIter_listiter st h
theorem turn_range {P : Program} {w : World} {K : PySem.W.Frag} {tg : Expr} (it : Addr) (lo : Int) (n : Nat) : Turn P w K tg (Itr lo n) [it] it (fun i h => IsRangeIter h it (lo + (i : Nat) * 1) ((n : Int) - (i : Nat)) 1) where
  mem := by simp
  obj := fun i h st b hb => by
    have e : b = it := by simpa using hb
    subst e
    exact ⟨_, st, fun v z => by
      have z' : Data.fields _ = Data.cell v := z
      cases z'⟩
  keep := fun i h h' st k => k it (by simp) _ st
  item := by
    intro X hP hw hK hc i pins s σ H E I hf st hg
    subst hP hw hK
    obtain ⟨f0, f1, f2, f3, f4, f5⟩ := hf it (by simp)
    have W := Walks.range (prog := X.prog) (w := X.w) (I.ok.hd hc) it lo 1 n
    refine W.item i s _ _ hg st fun v h' tk hv st' kk => ?_
    obtain ⟨t, rfl⟩ := hv
    have I1 : Inv X pins σ H { s with heap := h', toks := tk } := I.turned (fun b o hb e => kk b o (by simpa using hb) e) f0 f1 f3 f4 f5
    refine ⟨_, rfl, go_of (s := { s with heap := h', toks := tk }) (n := "range_iterator") st' rfl rfl (by decide) ⟨.int (lo + i), H, I1, ⟨t, ?_⟩, ⟨rfl, rfl⟩, st', fun b hb => (hf b hb).1⟩⟩
    rw [Int.mul_one]
  done := by
    intro X hP hw hK hc i pins s σ H E I hf st hg
    subst hP hw hK
    obtain ⟨f0, f1, f2, f3, f4, f5⟩ := hf it (by simp)
    exact wpAny_pyNext_range_end (I.ok.hd hc) st (by have : n ≤ i := hg; omega) fun h' eb => ⟨rfl, I.turned (t' := s.toks) (fun b o hb e => eb b o hb e) f0 f1 f3 f4 f5⟩
  self := fun _ _ _ _ _ st h => wpAny_pyIter_rangeiter st h
end L2

namespace L2
open PySem PySem.Spec PyProof.Rows
section
variable {X : Cx} {tg : Expr}
def iList (K : PySem.W.Frag) (tl : TE) : TI := fun σ H R => tl σ H fun x H1 => ∃ a, x = .ref a ∧ (∃ xs, SqL K H1 a xs) ∧ R (Itl K a) H1
theorem pi_list {l : Expr} {tl : TE} (hl : PE X l tl) : PI X tg l (iList X.K tl) := by
  intro pins s σ H R I h
  refine thn (hl pins s σ H _ I h) fun v s1 ⟨x, H1, I1, r1, q1⟩ => ?_
  obtain ⟨a, e, ⟨xs, hq⟩, q⟩ := q1
  subst e
  cases r1
  obtain ⟨its, rv, p, hz⟩ := I1.list hq
  refine wpAny_pyIter_list p.isList ?_
  refine ⟨s1.heap.objs.size, [s1.heap.objs.size], _, _, H1, rfl, I1.kept (t' := s1.toks) fun b o e => Heap.get?_push_of_some _ e, turn_list a _, ⟨_, Heap.get?_push_size _ rfl, rfl, rfl⟩, fun b hb => ?_, q⟩
  have e : b = s1.heap.objs.size := by simpa using hb
  subst e
  exact I1.fpOk (Nat.le_refl _) (I1.hok.fresh (Nat.le_refl _))
theorem range_it {pins : List (Addr × Obj)} {σ : St} {H : Hp} {s : Shared} {R : It → Hp → Prop} {E : Value → Shared → Prop} {lo hi : Int} {t u v : Tok} {tk : Nat} (I : Inv X pins σ H s) (h1 : -(2 ^ 62) ≤ lo) (h2 : lo < 2 ^ 62) (h3 : -(2 ^ 62) ≤ hi) (h4 : hi < 2 ^ 62)
    (q : R (Itr lo (hi - lo).toNat) H) : wpAny (model X.prog X.w) X.A (pyIter (.ref s.heap.objs.size)) (PIE X pins σ tg R) E { s with heap := s.heap.push { cls := .type "range", data := .fields #[.int lo t, .int hi u, .int 1 v] }, toks := tk } := by
  refine wpAny_pyIter_range (IsRange.new ..) (small_one h1 h2 h3 h4) ?_
  have I1 : Inv X pins σ H { s with heap := s.heap.push { cls := .type "range", data := .fields #[.int lo t, .int hi u, .int 1 v] }, toks := tk } := I.kept fun b o e => Heap.get?_push_of_some _ e
  refine ⟨(s.heap.push { cls := .type "range", data := .fields #[.int lo t, .int hi u, .int 1 v] }).objs.size, [(s.heap.push { cls := .type "range", data := .fields #[.int lo t, .int hi u, .int 1 v] }).objs.size], _, _, H, rfl,
    I1.kept (t' := tk) fun b o e => Heap.get?_push_of_some _ e, turn_range _ lo (hi - lo).toNat, ?_, fun b hb => ?_, q⟩
  · have e1 : lo + ((0 : Nat) : Int) * 1 = lo := by simp
    have e2 : (((hi - lo).toNat : Nat) : Int) - ((0 : Nat) : Int) = Builtin.Range.rangeSize lo hi 1 := by rw [rangeSize_one]; split <;> omega
    show IsRangeIter _ _ (lo + ((0 : Nat) : Int) * 1) ((((hi - lo).toNat : Nat) : Int) - ((0 : Nat) : Int)) 1
    rw [e1, e2]
    exact Heap.get?_push_size _ rfl
  · have e : b = (s.heap.push { cls := .type "range", data := .fields #[.int lo t, .int hi u, .int 1 v] }).objs.size := by simpa using hb
    subst e
    exact I1.fpOk (Nat.le_refl _) (I1.hok.fresh (Nat.le_refl _))
def iRng1 (ta : TA) : TI := fun σ H R => ta σ H fun vs H1 => ∃ j : Int, vs = [.int j] ∧ -(2 ^ 62) ≤ j ∧ j < 2 ^ 62 ∧ R (Itr 0 j.toNat) H1
def iRng2 (ta : TA) : TI := fun σ H R => ta σ H fun vs H1 => ∃ i j : Int, vs = [.int i, .int j] ∧ (-(2 ^ 62) ≤ i ∧ i < 2 ^ 62 ∧ -(2 ^ 62) ≤ j ∧ j < 2 ^ 62) ∧ R (Itr i (j - i).toNat) H1
theorem pi_range1 {a : Expr} {ta : TA} {p pos : Pos} (hg : Gl X "range") (hm : X.mg "range" = none) (ha : PA X [a] ta) (hs : starEach [a] X.env = [(false, eval a X.env)] := by rfl) : PI X tg (.Call (.Name "range" p) [a] [] pos) (iRng1 ta) := by
  intro pins s σ H R I h
  refine Call_ (ld_blt I hg hm boot_range (PyProof.Rows.callWith_type1 (thn (ha pos pins s σ H _ I h) fun us s1 ⟨vs, H1, I1, r1, q1⟩ => ?_) hs rfl))
  obtain ⟨j, e, q1, q2, q⟩ := q1
  subst e
  cases r1 with
  | cons r rr =>
    cases rr
    obtain ⟨t, rfl⟩ := r
    exact call_range_1 (range_it I1 (by omega) (by omega) q1 q2 (by simpa using q))
theorem pi_range2 {a b : Expr} {ta : TA} {p pos : Pos} (hg : Gl X "range") (hm : X.mg "range" = none) (ha : PA X [a, b] ta) (hs : starEach [a, b] X.env = [(false, eval a X.env), (false, eval b X.env)] := by rfl) (hs2 : starEach [b] X.env = [(false, eval b X.env)] := by rfl) :
    PI X tg (.Call (.Name "range" p) [a, b] [] pos) (iRng2 ta) := by
  intro pins s σ H R I h
  refine Call_ (ld_blt I hg hm boot_range (PyProof.Rows.callWith_type1 (thn (ha pos pins s σ H _ I h) fun us s1 ⟨vs, H1, I1, r1, q1⟩ => ?_) (by rw [hs, hs2]) (by rw [hs2]; rfl)))
  obtain ⟨i, j, e, ⟨q1, q2, q3, q4⟩, q⟩ := q1
  subst e
  cases r1 with
  | cons r rr =>
    cases rr with
    | cons r' rr =>
      cases rr
      obtain ⟨t, rfl⟩ := r
      obtain ⟨t', rfl⟩ := r'
      exact call_range_2 (range_it I1 q1 q2 q3 q4 q)

def tFor (wi : TI) (g : TG) (tb : TS) : TS := fun D σ H => wi σ H fun J H1 => ∃ W : Nat → Nat → St → Hp → Prop, (∃ m, W 0 m σ H1) ∧ ∀ i m σ H, W i m σ H →
  (J.stop i H ∧ D.nx σ H) ∨ (J.go i H ∧ ∃ N : St → Hp → Prop, (∀ σ' H', N σ' H' → ∃ m', m' < m ∧ W (i + 1) m' σ' H') ∧ ∀ x H', J.yld i H x H' → g x σ H' fun σ2 H2 => tb { D with nx := N, ct := N, bk := D.nx } σ2 H2)
def pinsAt (fp : List Addr) (h : Heap) : List (Addr × Obj) := fp.filterMap fun b => (h.get? b).map fun o => (b, o)
theorem mem_pinsAt {fp : List Addr} {h : Heap} {b : Addr} {o : Obj} (hb : b ∈ fp) (e : h.get? b = some o) : (b, o) ∈ pinsAt fp h := List.mem_filterMap.mpr ⟨b, hb, by rw [e]; rfl⟩
theorem of_pinsAt {fp : List Addr} {h : Heap} {p : Addr × Obj} (hp : p ∈ pinsAt fp h) : p.1 ∈ fp ∧ h.get? p.1 = some p.2 := by
  obtain ⟨b, hb, e⟩ := List.mem_filterMap.mp hp
  cases q : h.get? b with
  | none => rw [q] at e; cases e
  | some o =>
    rw [q] at e
    have e' : (b, o) = p := Option.some.inj e
    subst e'
    exact ⟨hb, q⟩
theorem Inv.pinned {pins : List (Addr × Obj)} {σ : St} {H : Hp} {s : Shared} {fp : List Addr} (I : Inv X pins σ H s) (hf : ∀ b ∈ fp, FpOk X pins H b) (ho : ∀ b ∈ fp, ∃ o, s.heap.get? b = some o ∧ ∀ v, o.data ≠ .cell v) : Inv X (pins ++ pinsAt fp s.heap) σ H s :=
  I.pins_of fun p hp => (List.mem_append.mp hp).elim (fun z => I.pin p (List.mem_append_right _ z)) fun z => by
    obtain ⟨hb, e⟩ := of_pinsAt z
    obtain ⟨f0, f1, f2, _⟩ := hf p.1 hb
    obtain ⟨o, e', d⟩ := ho p.1 hb
    rw [e] at e'; cases e'
    exact ⟨e, f0, f1, f2, d⟩
theorem Inv.unpinned {pins pl : List (Addr × Obj)} {σ : St} {H : Hp} {s : Shared} (I : Inv X (pins ++ pl) σ H s) : Inv X pins σ H s := I.pins_of fun p hp => I.pin p (List.mem_append_right _ (List.mem_append_left _ hp))
theorem ps_for {iter : Expr} {body : List Stmt} {wi : TI} {g : TG} {tb : TS} {pos : Pos} (hp : PassesOwn (model X.prog X.w) X.A X.env X.xe) (hc : X.calm = true) (hi : PI X tg iter wi) (hg : PG X tg g) (hb : PSs X body tb)
    (hs : ∀ x, foldedSetIterable iter X.env x = pure x := by intro _; rfl) : PS X (.For tg iter body [] pos) (tFor wi g tb) := by
  intro pins s σ H D I h
  refine wpAny_For (thn (hi pins s σ H _ I h) fun v s1 h1 => thn h1 fun itv s2 h2 => ?_) hs
  obtain ⟨it, fp, tn, J, H2, e, I2, T, st2, f2, W, ⟨m0, w0⟩, turn⟩ := h2
  subst e
  -- what stays true of the iterator's objects through the loop
  have stat : ∀ {H' : Hp}, (∀ b ∈ fp, H' b = none) → ∀ b ∈ fp, FpOk X pins H' b := fun hn b hb => ⟨hn b hb, (f2 b hb).2⟩
  refine codeAny_forLoop_any (fun n s' => ∃ i σ' H', Inv X pins σ' H' s' ∧ tn i s'.heap ∧ (∀ b ∈ fp, H' b = none) ∧ W i n σ' H') ?_ m0 ⟨0, σ, H2, I2, st2, fun b hb => (f2 b hb).1, w0⟩
  rintro n s3 ⟨i, σ3, H3, I3, st3, fr3, w3⟩
  rcases turn i n σ3 H3 w3 with ⟨stop, qn⟩ | ⟨go, N, hN, step⟩
  · refine wpAny_passesOwn hp (thn (T.done X rfl rfl rfl hc i pins s3 σ3 H3 X.xe I3 (stat fr3) st3 stop) fun r s4 ⟨hr, I4⟩ => ?_)
    subst hr
    exact wpAny_execs_nil ⟨σ3, H3, I4, qn⟩
  · refine wpAny_passesOwn hp (thn (T.item X rfl rfl rfl hc i pins s3 σ3 H3 X.xe I3 (stat fr3) st3 go) fun r s4 ⟨u, hr, h4⟩ => ?_)
    subst hr
    refine wpAny_passesOwn hp (thn h4 fun _ s5 ⟨x, H5, I5, r5, y5, st5, fr5⟩ => ?_)
    have I5' := I5.pinned (stat fr5) (T.obj _ _ st5)
    refine wpAny_passesOwn hp (thn (hg _ s5 σ3 H5 x u _ I5' r5 (step x H5 y5)) fun _ s6 ⟨σ6, H6, I6, q6⟩ => ?_)
    refine wpAny_passesOwn hp (thn (hb _ s6 σ6 H6 _ I6 q6) fun f s7 q7 => ?_)
    have again : ∀ {σ7 : St} {H7 : Hp}, Inv X (pins ++ pinsAt fp s5.heap) σ7 H7 s7 → N σ7 H7 → ∃ m, m < n ∧ ∃ i σ' H', Inv X pins σ' H' s7 ∧ tn i s7.heap ∧ (∀ b ∈ fp, H' b = none) ∧ W i m σ' H' := fun {σ7 H7} I7 n7 => by
      obtain ⟨m', hm, w7⟩ := hN σ7 H7 n7
      refine ⟨m', hm, i + 1, σ7, H7, I7.unpinned, T.keep _ _ _ st5 fun b hb o e => (I7.pin (b, o) (List.mem_append_right _ (List.mem_append_right _ (mem_pinsAt hb e)))).1, fun b hb => ?_, w7⟩
      obtain ⟨o, e, d⟩ := T.obj _ _ st5 b hb
      exact (I7.pin (b, o) (List.mem_append_right _ (List.mem_append_right _ (mem_pinsAt hb e)))).2.1
    cases f with
    | next => obtain ⟨σ7, H7, I7, n7⟩ := q7; exact again I7 n7
    | cont => obtain ⟨σ7, H7, I7, n7⟩ := q7; exact again I7 n7
    | brk => obtain ⟨σ7, H7, I7, q7⟩ := q7; exact ⟨σ7, H7, I7.unpinned, q7⟩
    | ret v => obtain ⟨x7, σ7, H7, I7, r7, q7⟩ := q7; exact ⟨x7, σ7, H7, I7.unpinned, r7, q7⟩
end

theorem for_range {lo : Int} {n : Nat} {g : TG} {tb : TS} {D : Ends} {σ : St} {H : Hp} (Pv : Nat → St → Hp → Prop) (h0 : Pv 0 σ H)
    (hs : ∀ i σ H, i < n → Pv i σ H → g (.int (lo + i)) σ H fun σ2 H2 => tb { D with nx := Pv (i + 1), ct := Pv (i + 1), bk := D.nx } σ2 H2) (hd : ∀ σ H, Pv n σ H → D.nx σ H) :
    ∃ W : Nat → Nat → St → Hp → Prop, (∃ m, W 0 m σ H) ∧ ∀ i m σ H, W i m σ H →
      ((Itr lo n).stop i H ∧ D.nx σ H) ∨ ((Itr lo n).go i H ∧ ∃ N : St → Hp → Prop, (∀ σ' H', N σ' H' → ∃ m', m' < m ∧ W (i + 1) m' σ' H') ∧ ∀ x H', (Itr lo n).yld i H x H' → g x σ H' fun σ2 H2 => tb { D with nx := N, ct := N, bk := D.nx } σ2 H2) := by
  refine ⟨fun i m σ H => m = n - i ∧ i ≤ n ∧ Pv i σ H, ⟨n, by simp, Nat.zero_le _, h0⟩, ?_⟩
  rintro i m σ H ⟨rfl, hi, p⟩
  by_cases hlt : i < n
  · refine .inr ⟨hlt, Pv (i + 1), fun σ' H' p' => ⟨n - (i + 1), by omega, rfl, hlt, p'⟩, fun x H' y => ?_⟩
    obtain ⟨e, y⟩ := y
    subst e y
    exact hs i σ _ hlt p
  · have e : i = n := by omega
    subst e
    exact .inl ⟨Nat.le_refl _, hd σ H p⟩
end L2

namespace L2
open PySem PySem.Spec PyProof.Rows

abbrev R2 := V → V → Hp → VK → Prop
def OpR (X : Cx) (f : Value → Value → Sem Value) (r : R2) : Prop :=
  ∀ (pins : List (Addr × Obj)) (s : Shared) (σ : St) (H : Hp) (x y : V) (v u : Value) (Q : VK), Inv X pins σ H s → RelV x v → RelV y u → r x y H Q →
    wpAny (model X.prog X.w) X.A (f v u) (EP X pins σ Q) X.xe s
def UnR (X : Cx) (f : Value → Sem Value) (r : V → Hp → VK → Prop) : Prop :=
  ∀ (pins : List (Addr × Obj)) (s : Shared) (σ : St) (H : Hp) (x : V) (v : Value) (Q : VK), Inv X pins σ H s → RelV x v → r x H Q →
    wpAny (model X.prog X.w) X.A (f v) (EP X pins σ Q) X.xe s
def CallR (X : Cx) (f : Value) (r : List V → Hp → VK → Prop) : Prop :=
  ∀ (pins : List (Addr × Obj)) (s : Shared) (σ : St) (H : Hp) (xs : List V) (us : List Value) (Q : VK), Inv X pins σ H s → Vals xs us → r xs H Q →
    wpAny (model X.prog X.w) X.A (call f us) (EP X pins σ Q) X.xe s
def TruR (X : Cx) (r : V → Hp → (Bool → Hp → Prop) → Prop) : Prop :=
  ∀ (pins : List (Addr × Obj)) (s : Shared) (σ : St) (H : Hp) (x : V) (v : Value) (Q : Bool → Hp → Prop), Inv X pins σ H s → RelV x v → r x H Q →
    wpAny (model X.prog X.w) X.A (truthy v) (TP X pins σ Q) X.xe s

def tOp (r : R2) (ta tb : TE) : TE := fun σ H Q => ta σ H fun x H1 => tb σ H1 fun y H2 => r x y H2 Q
def tUn (r : V → Hp → VK → Prop) (ta : TE) : TE := fun σ H Q => ta σ H fun x H1 => r x H1 Q
def rI (C : Int → Int → Prop) (g : Int → Int → V) : R2 := fun x y H Q => ∃ i j, x = .int i ∧ y = .int j ∧ C i j ∧ Q (g i j) H
def rI0 (g : Int → Int → V) : R2 := fun x y H Q => ∃ i j, x = .int i ∧ y = .int j ∧ Q (g i j) H
def rU (g : Int → V) : V → Hp → VK → Prop := fun x H Q => ∃ i, x = .int i ∧ Q (g i) H

section
variable {X : Cx} {a b c : Expr} {ta tb tc : TE} {pos : Pos}

theorem binT (ha : PE X a ta) (hb : PE X b tb) {pins : List (Addr × Obj)} {s : Shared} {σ : St} {H : Hp} {R : V → V → Hp → Prop} (I : Inv X pins σ H s)
    (h : ta σ H fun x H1 => tb σ H1 fun y H2 => R x y H2) {Q : Value → Shared → Prop} {f : Value → Value → Sem Value}
    (hf : ∀ v u s2 x y H2, Inv X pins σ H2 s2 → RelV x v → RelV y u → R x y H2 → wpAny (model X.prog X.w) X.A (f v u) Q X.xe s2) :
    wpAny (model X.prog X.w) X.A (eval a X.env) (fun v s₁ => wpAny (model X.prog X.w) X.A (eval b X.env) (fun u s₂ => wpAny (model X.prog X.w) X.A (f v u) Q X.xe s₂) X.xe s₁) X.xe s := by
  refine thn (ha pins s σ H _ I h) fun v s1 ⟨x, H1, I1, r1, q1⟩ => ?_
  refine thn (hb pins s1 σ H1 _ I1 q1) fun u s2 ⟨y, H2, I2, r2, q2⟩ => ?_
  exact hf v u s2 x y H2 I2 r1 r2 q2

theorem pe_op {op : Operator} {r : R2} (ho : OpR X (binaryOp op) r) (ha : PE X a ta) (hb : PE X b tb) : PE X (.BinOp a op b pos) (tOp r ta tb) := by
  intro pins s σ H Q I h
  exact wpAny_BinOp (binT ha hb I h fun v u s2 x y H2 I2 rx ry q => ho pins s2 σ H2 x y v u Q I2 rx ry q)
theorem pe_un {op : UnaryOp} {r : V → Hp → VK → Prop} (ho : UnR X (unaryOp op) r) (ha : PE X a ta) : PE X (.UnaryOp op a pos) (tUn r ta) := by
  intro pins s σ H Q I h
  exact UnaryOp_ (thn (ha pins s σ H _ I h) fun v s1 ⟨x, H1, I1, r1, q1⟩ => ho pins s1 σ H1 x v Q I1 r1 q1)

theorem opI {f : Value → Value → Sem Value} {C : Int → Int → Prop} {g : Int → Int → Int}
    (rule : ∀ (i j : Int) (t u : Tok) (s : Shared) (Q : Value → Shared → Prop) (E : Value → Shared → Prop), C i j → Q (.int (g i j) s.toks) { s with toks := s.toks + 1 } → wpAny (model X.prog X.w) X.A (f (.int i t) (.int j u)) Q E s) :
    OpR X f (rI C fun i j => .int (g i j)) := by
  intro pins s σ H x y v u Q I rx ry h
  obtain ⟨i, j, rfl, rfl, hc, q⟩ := h
  obtain ⟨t, rfl⟩ := rx
  obtain ⟨t', rfl⟩ := ry
  exact rule i j t t' s _ _ hc ⟨.int (g i j), H, I.tok _, ⟨_, rfl⟩, q⟩
theorem opI0 {f : Value → Value → Sem Value} {g : Int → Int → Int}
    (rule : ∀ (i j : Int) (t u : Tok) (s : Shared) (Q : Value → Shared → Prop) (E : Value → Shared → Prop), Q (.int (g i j) s.toks) { s with toks := s.toks + 1 } → wpAny (model X.prog X.w) X.A (f (.int i t) (.int j u)) Q E s) :
    OpR X f (rI0 fun i j => .int (g i j)) := by
  intro pins s σ H x y v u Q I rx ry h
  obtain ⟨i, j, rfl, rfl, q⟩ := h
  obtain ⟨t, rfl⟩ := rx
  obtain ⟨t', rfl⟩ := ry
  exact rule i j t t' s _ _ ⟨.int (g i j), H, I.tok _, ⟨_, rfl⟩, q⟩
theorem opB0 {f : Value → Value → Sem Value} {g : Int → Int → Bool}
    (rule : ∀ (i j : Int) (t u : Tok) (s : Shared) (Q : Value → Shared → Prop) (E : Value → Shared → Prop), Q (.bool (g i j)) s → wpAny (model X.prog X.w) X.A (f (.int i t) (.int j u)) Q E s) :
    OpR X f (rI0 fun i j => .bl (g i j)) := by
  intro pins s σ H x y v u Q I rx ry h
  obtain ⟨i, j, rfl, rfl, q⟩ := h
  obtain ⟨t, rfl⟩ := rx
  obtain ⟨t', rfl⟩ := ry
  exact rule i j t t' s _ _ ⟨.bl (g i j), H, I, rfl, q⟩

def CPow (i j : Int) : Prop := 0 ≤ j ∧ j ≤ 1000000 ∧ i.natAbs < 2 ^ 64
def CMul (i j : Int) : Prop := (-(2 ^ 64) < i ∧ i < 2 ^ 64) ∨ (-(2 ^ 64) < j ∧ j < 2 ^ 64)
theorem CMul.ok {i j : Int} (h : CMul i j) : IntMulOk i j := by
  rcases h with ⟨h1, h2⟩ | ⟨h1, h2⟩
  · exact .of_left (intBits_le_64 h1 h2)
  · exact .of_right (intBits_le_64 h1 h2)

theorem op_add : OpR X (binaryOp .Add) (rI0 fun i j => .int (i + j)) := opI0 fun _ _ _ _ _ _ _ q => add_int q
theorem op_sub : OpR X (binaryOp .Sub) (rI0 fun i j => .int (i - j)) := opI0 fun _ _ _ _ _ _ _ q => sub_int q
theorem op_mod : OpR X (binaryOp .Mod) (rI (fun _ j => 0 < j) fun i j => .int (i % j)) := opI fun i j _ _ _ _ _ hc q => by
  have h1 : (0 : Int) < j := hc
  exact mod_int' (by omega) (by rw [Int.fmod_eq_emod_of_nonneg i (by omega)]; exact q)
theorem op_pow : OpR X (binaryOp .Pow) (rI CPow fun i j => .int (i ^ j.toNat)) := opI fun _ _ _ _ _ _ _ hc q => pow_int_small hc.1 hc.2.1 hc.2.2 q
theorem op_shl : OpR X (binaryOp .LShift) (rI CPow fun i j => .int (i * 2 ^ j.toNat)) := opI fun _ _ _ _ _ _ _ hc q => lshift_int_small hc.1 hc.2.1 hc.2.2 q


theorem unI {f : Value → Sem Value} {g : Int → Int}
    (rule : ∀ (i : Int) (t : Tok) (s : Shared) (Q : Value → Shared → Prop) (E : Value → Shared → Prop), Q (.int (g i) s.toks) { s with toks := s.toks + 1 } → wpAny (model X.prog X.w) X.A (f (.int i t)) Q E s) :
    UnR X f (rU fun i => .int (g i)) := by
  intro pins s σ H x v Q I rx h
  obtain ⟨i, rfl, q⟩ := h
  obtain ⟨t, rfl⟩ := rx
  exact rule i t s _ _ ⟨.int (g i), H, I.tok _, ⟨_, rfl⟩, q⟩
theorem un_neg : UnR X (unaryOp .USub) (rU fun i => .int (-i)) := unI fun _ _ _ _ _ q => neg_int q

end

def scal : V → V → Bool
  | .non, .non => true | .non, .int _ => true | .int _, .non => true | .non, .bl _ => true | .bl _, .non => true | .non, .str _ => true | .str _, .non => true
  | .int _, .int _ => true | .bl _, .bl _ => true | .str _, .str _ => true | .byt _, .byt _ => true
  | .int _, .str _ => true | .str _, .int _ => true | .bl _, .str _ => true | .str _, .bl _ => true
  | _, _ => false
def rEq : R2 := fun x y H Q => scal x y = true ∧ Q (.bl (decide (x = y))) H
def rNe : R2 := fun x y H Q => scal x y = true ∧ Q (.bl (!decide (x = y))) H

theorem dec_int {i j : Int} : decide (V.int i = V.int j) = (i == j) := by
  rw [Bool.eq_iff_iff]
  simp
theorem dec_bl {i j : Bool} : decide (V.bl i = V.bl j) = (i == j) := by
  rw [Bool.eq_iff_iff]
  simp
theorem dec_str {i j : Str} : decide (V.str i = V.str j) = (i == j) := by
  rw [Bool.eq_iff_iff]
  simp
theorem dec_byt {i j : Array UInt8} : decide (V.byt i = V.byt j) = (i.toList == j.toList) := by
  rw [Bool.eq_iff_iff]
  cases i
  cases j
  simp

section
variable {X : Cx} {a b c : Expr} {ta tb tc : TE} {pos : Pos}
theorem fin_bl {pins : List (Addr × Obj)} {σ : St} {H : Hp} {s : Shared} {Q : VK} {k k' : Bool} (I : Inv X pins σ H s) (q : Q (.bl k) H) (e : k = k') : EP X pins σ Q (.bool k') s := by
  subst e
  exact ⟨.bl k, H, I, rfl, q⟩
theorem op_eq : OpR X (compareOp .Eq) rEq := by
  intro pins s σ H x y v u Q I rx ry h
  obtain ⟨hs, q⟩ := h
  cases x with
  | non =>
    cases rx
    cases y with
    | non => cases ry; exact PySem.EqNone.eq_none_none (fin_bl I q (by simp))
    | bl j => cases ry; exact PySem.EqNone.eq_none_bool (fin_bl I q (by simp))
    | int j => obtain ⟨t', rfl⟩ := ry; exact PySem.EqNone.eq_none_int (fin_bl I q (by simp))
    | str j => obtain ⟨t', rfl⟩ := ry; exact PySem.EqNone.eq_none_str (fin_bl I q (by simp))
    | _ => exact absurd (show false = true from hs) Bool.false_ne_true
  | bl i =>
    cases rx
    cases y with
    | non => cases ry; exact PySem.EqNone.eq_bool_none (fin_bl I q (by simp))
    | bl j => cases ry; exact eq_bool (fin_bl I q dec_bl)
    | str j => obtain ⟨t', rfl⟩ := ry; exact PySem.EqMixed.eq_bool_str (fin_bl I q (by simp))
    | _ => exact absurd (show false = true from hs) Bool.false_ne_true
  | int i =>
    obtain ⟨t, rfl⟩ := rx
    cases y with
    | non => cases ry; exact PySem.EqNone.eq_int_none (fin_bl I q (by simp))
    | int j => obtain ⟨t', rfl⟩ := ry; exact eq_int (fin_bl I q dec_int)
    | str j => obtain ⟨t', rfl⟩ := ry; exact PySem.EqMixed.eq_int_str (fin_bl I q (by simp))
    | _ => exact absurd (show false = true from hs) Bool.false_ne_true
  | str i =>
    obtain ⟨t, rfl⟩ := rx
    cases y with
    | non => cases ry; exact PySem.EqNone.eq_str_none (fin_bl I q (by simp))
    | bl j => cases ry; exact PySem.EqMixed.eq_str_bool (fin_bl I q (by simp))
    | int j => obtain ⟨t', rfl⟩ := ry; exact PySem.EqMixed.eq_str_int (fin_bl I q (by simp))
    | str j => obtain ⟨t', rfl⟩ := ry; exact eq_str (fin_bl I q dec_str)
    | _ => exact absurd (show false = true from hs) Bool.false_ne_true
  | byt i =>
    obtain ⟨t, rfl⟩ := rx
    cases y with
    | byt j => obtain ⟨t', rfl⟩ := ry; exact PySem.W.eq_bytes (fin_bl I q dec_byt)
    | _ => exact absurd (show false = true from hs) Bool.false_ne_true
  | _ => cases y <;> exact absurd (show false = true from hs) Bool.false_ne_true
theorem op_ne : OpR X (compareOp .NotEq) rNe := by
  intro pins s σ H x y v u Q I rx ry h
  obtain ⟨hs, q⟩ := h
  cases x with
  | non =>
    cases rx
    cases y with
    | non => cases ry; exact PySem.EqNone.ne_none_none (fin_bl I q (by simp))
    | bl j => cases ry; exact PySem.EqNone.ne_none_bool (fin_bl I q (by simp))
    | int j => obtain ⟨t', rfl⟩ := ry; exact PySem.EqNone.ne_none_int (fin_bl I q (by simp))
    | str j => obtain ⟨t', rfl⟩ := ry; exact PySem.EqNone.ne_none_str (fin_bl I q (by simp))
    | _ => exact absurd (show false = true from hs) Bool.false_ne_true
  | bl i =>
    cases rx
    cases y with
    | non => cases ry; exact PySem.EqNone.ne_bool_none (fin_bl I q (by simp))
    | bl j => cases ry; exact ne_bool (fin_bl I q (congrArg not dec_bl))
    | str j => obtain ⟨t', rfl⟩ := ry; exact PySem.EqMixed.ne_bool_str (fin_bl I q (by simp))
    | _ => exact absurd (show false = true from hs) Bool.false_ne_true
  | int i =>
    obtain ⟨t, rfl⟩ := rx
    cases y with
    | non => cases ry; exact PySem.EqNone.ne_int_none (fin_bl I q (by simp))
    | int j => obtain ⟨t', rfl⟩ := ry; exact ne_int (fin_bl I q (congrArg not dec_int))
    | str j => obtain ⟨t', rfl⟩ := ry; exact PySem.EqMixed.ne_int_str (fin_bl I q (by simp))
    | _ => exact absurd (show false = true from hs) Bool.false_ne_true
  | str i =>
    obtain ⟨t, rfl⟩ := rx
    cases y with
    | non => cases ry; exact PySem.EqNone.ne_str_none (fin_bl I q (by simp))
    | bl j => cases ry; exact PySem.EqMixed.ne_str_bool (fin_bl I q (by simp))
    | int j => obtain ⟨t', rfl⟩ := ry; exact PySem.EqMixed.ne_str_int (fin_bl I q (by simp))
    | str j => obtain ⟨t', rfl⟩ := ry; exact ne_str (fin_bl I q (congrArg not dec_str))
    | _ => exact absurd (show false = true from hs) Bool.false_ne_true
  | byt i =>
    obtain ⟨t, rfl⟩ := rx
    cases y with
    | byt j => obtain ⟨t', rfl⟩ := ry; exact PySem.W.ne_bytes (fin_bl I q (congrArg not dec_byt))
    | _ => exact absurd (show false = true from hs) Bool.false_ne_true
  | _ => cases y <;> exact absurd (show false = true from hs) Bool.false_ne_true

theorem op_lt : OpR X (compareOp .Lt) (rI0 fun i j => .bl (decide (i < j))) := opB0 fun _ _ _ _ _ _ _ q => lt_int q
theorem op_le : OpR X (compareOp .LtE) (rI0 fun i j => .bl (decide (i ≤ j))) := opB0 fun _ _ _ _ _ _ _ q => le_int q
theorem op_gt : OpR X (compareOp .Gt) (rI0 fun i j => .bl (decide (j < i))) := opB0 fun _ _ _ _ _ _ _ q => gt_int q




theorem nomark (b : Expr) {op : CmpOp} (h : op ≠ .In := by decide) (h2 : op ≠ .NotIn := by decide) : behindInMarks op b = false := by
  have e1 : (op == CmpOp.In) = false := by cases op <;> first | rfl | exact absurd rfl h
  have e2 : (op == CmpOp.NotIn) = false := by cases op <;> first | rfl | exact absurd rfl h2
  cases b <;> simp [behindInMarks, e1, e2]
theorem pe_cmpR {op : CmpOp} {r : R2} (ho : OpR X (compareOp op) r) (ha : PE X a ta) (hb : PE X b tb) (hm : behindInMarks op b = false) : PE X (.Compare a [op] [b] pos) (tOp r ta tb) := by
  intro pins s σ H Q I h
  exact wpAny_Compare1 (binT ha hb I h fun v u s2 x y H2 I2 rx ry q => ho pins s2 σ H2 x y v u Q I2 rx ry q) hm
def tTest (t : TE) : TT := fun σ H Q => t σ H fun x H' => ∃ k, x = .bl k ∧ Q k H'
theorem pt_cmpR {op : CmpOp} {r : R2} (ho : OpR X (compareOp op) r) (ha : PE X a ta) (hb : PE X b tb) (hm : behindInMarks op b = false) : PT X (.Compare a [op] [b] pos) (tTest (tOp r ta tb)) := by
  intro pins s σ H Q I h
  refine wpAny_isTrue_Compare1 (thn (ha pins s σ H _ I h) fun v s1 ⟨x, H1, I1, r1, q1⟩ => thn (hb pins s1 σ H1 _ I1 q1) fun u s2 ⟨y, H2, I2, r2, q2⟩ =>
    thn (ho pins s2 σ H2 x y v u _ I2 r1 r2 q2) fun c s3 ⟨z, H3, I3, r3, k, e, q3⟩ => ?_) hm
  subst e
  cases r3
  exact wpAny_truthy_bool ⟨H3, I3, q3⟩
def tChain (r r' : R2) (ta tb tc : TE) : TE := fun σ H Q => ta σ H fun x H1 => tb σ H1 fun y H2 => r x y H2 fun z H3 => ∃ k, z = .bl k ∧
  (if k = true then tc σ H3 fun w' H4 => r' y w' H4 Q else Q (.bl false) H3)
theorem pe_chain {op op' : CmpOp} {r r' : R2} (ho : OpR X (compareOp op) r) (ho' : OpR X (compareOp op') r') (ha : PE X a ta) (hb : PE X b tb) (hc : PE X c tc)
    (hm : lastMarks [op, op'] [b, c] = false := by with_unfolding_all rfl) : PE X (.Compare a [op, op'] [b, c] pos) (tChain r r' ta tb tc) := by
  intro pins s σ H Q I h
  refine Compare_chain (thn (ha pins s σ H _ I h) fun v s1 ⟨x, H1, I1, r1, q1⟩ => chain_link (thn (hb pins s1 σ H1 _ I1 q1) fun u s2 ⟨y, H2, I2, r2, q2⟩ =>
    thn (ho pins s2 σ H2 x y v u _ I2 r1 r2 q2) fun d s3 ⟨z, H3, I3, r3, k, e, q3⟩ => ?_)) hm
  subst e
  cases r3
  refine wpAny_truthy_bool ?_
  cases k with
  | false => exact ite_ff ⟨.bl false, H3, I3, rfl, q3⟩
  | true => exact ite_tt (chain_last (thn (hc pins s3 σ H3 _ I3 q3) fun w' s4 ⟨z', H4, I4, r4, q4⟩ => ho' pins s4 σ H4 y z' u w' Q I4 r2 r4 q4))

def TruV (K : PySem.W.Frag) (x : V) (H : Hp) (k : Bool) : Prop :=
  match x with
  | .non => k = false
  | .bl b => k = b
  | .int i => k = (i != 0)
  | .str y => y.length ≤ sizeLine ∧ k = ((y.length : Int) != 0)
  | .byt y => y.size ≤ sizeLine ∧ k = ((y.size : Int) != 0)
  | .ref p => (∃ xs, SqL K H p xs ∧ k = !xs.isEmpty) ∨ (∃ xs, SqT K H p xs ∧ k = !xs.isEmpty) ∨ ∃ kvs, H p = some (.dK kvs) ∧ k = !kvs.isEmpty
  | _ => False
theorem isEmpty_kv {κ : Type} {kvs : List (κ × V)} {vs : List (κ × Value)} (r : KV kvs vs) : (!vs.isEmpty) = !kvs.isEmpty := by
  cases r <;> rfl
theorem isEmpty_of {xs : List V} {its : List Value} (r : Vals xs its) : (!its.toArray.isEmpty) = !xs.isEmpty := by
  cases r <;> simp
theorem line63 : (sizeLine : Nat) < 2 ^ 63 := by rw [sizeLine_eq]; decide
theorem tru_ok : TruR X (fun x H Q => ∃ k, TruV X.K x H k ∧ Q k H) := by
  intro pins s σ H x v Q I rx h
  obtain ⟨k, e, q⟩ := h
  have hl := line63
  have hs : sizeLine = 16777216 := sizeLine_eq
  cases x with
  | non =>
    cases rx
    have e' : k = false := e
    subst e'
    exact truthy_none ⟨H, I, q⟩
  | bl b =>
    cases rx
    have e' : k = b := e
    subst e'
    exact wpAny_truthy_bool ⟨H, I, q⟩
  | int i =>
    obtain ⟨t, rfl⟩ := rx
    have e' : k = (i != 0) := e
    subst e'
    exact PySem.P.truthy_int ⟨H, I, q⟩
  | str y =>
    obtain ⟨t, rfl⟩ := rx
    obtain ⟨hy, e'⟩ : y.length ≤ sizeLine ∧ k = ((y.length : Int) != 0) := e
    subst e'
    exact PySem.P.truthy_str (by omega) ⟨H, I.tok _, q⟩
  | byt y =>
    obtain ⟨t, rfl⟩ := rx
    obtain ⟨hy, e'⟩ : y.size ≤ sizeLine ∧ k = ((y.size : Int) != 0) := e
    subst e'
    exact PySem.W.truthy_bytes (by omega) ⟨H, I.tok _, q⟩
  | ref p =>
    cases rx
    have e' : (∃ xs, SqL X.K H p xs ∧ k = !xs.isEmpty) ∨ (∃ xs, SqT X.K H p xs ∧ k = !xs.isEmpty) ∨ ∃ kvs, H p = some (.dK kvs) ∧ k = !kvs.isEmpty := e
    rcases e' with ⟨xs, hx, e'⟩ | ⟨xs, hx, e'⟩ | ⟨kvs, hx, e'⟩
    · subst e'
      obtain ⟨its, r, pl, hz⟩ := I.list hx
      have hlen := r.length
      exact wpAny_truthy_list pl.isList (by simp only [List.size_toArray]; omega) ⟨H, I.tok _, by rw [isEmpty_of r]; exact q⟩
    · subst e'
      obtain ⟨its, r, pl, hz⟩ := I.tuple hx
      have hlen := r.length
      exact truthy_tuple pl (by simp only [List.size_toArray]; omega) ⟨H, I.tok _, by rw [isEmpty_of r]; exact q⟩
    · subst e'
      obtain ⟨hz, hS, vs, r, m⟩ : kvs.length ≤ sizeLine ∧ (p == sysModules) = false ∧ ∃ vs, KV kvs vs ∧ s.heap.DictOf (mixKind X.prog X.w) p vs := I.hok p _ hx
      have hlen : kvs.length = vs.length := Paired.length r
      exact wpAny_truthy_dict hS m (by omega) ⟨H, I.tok _, by rw [isEmpty_kv r]; exact q⟩
  | _ => exact (show False from e).elim
theorem pt_truth (ha : PE X a ta) (he : ∀ whole, isTrue a X.env whole = (do let v ← whole; standAt a.pos; holding [v] (truthy v))) :
    PT X a (fun σ H Q => ta σ H fun x H' => ∃ k, TruV X.K x H' k ∧ Q k H') := by
  intro pins s σ H Q I h
  exact isTrue_plain (thn (ha pins s σ H _ I h) fun v s1 ⟨x, H1, I1, r1, q1⟩ => tru_ok pins s1 σ H1 x v Q I1 r1 q1) (he _)



theorem vals1 {x : V} {us : List Value} (r : Vals [x] us) : ∃ u, us = [u] ∧ RelV x u := by
  cases r with
  | cons r1 r2 => cases r2; exact ⟨_, rfl, r1⟩
theorem vals2 {x y : V} {us : List Value} (r : Vals [x, y] us) : ∃ u w', us = [u, w'] ∧ RelV x u ∧ RelV y w' := by
  cases r with
  | cons r1 r2 =>
    cases r2 with
    | cons r3 r4 => cases r4; exact ⟨_, _, rfl, r1, r3⟩
theorem call_max2 (hc : X.calm = true) : CallR X (.builtin "max") (fun xs H Q => ∃ i j, xs = [.int i, .int j] ∧ Q (.int (if j > i then j else i)) H) := by
  intro pins s σ H xs us Q I r h
  obtain ⟨i, j, rfl, q⟩ := h
  obtain ⟨u, w', rfl, ⟨t, rfl⟩, ⟨t', rfl⟩⟩ := vals2 r
  refine max_two_ints (I.ok.hd hc) fun h' tk k => ⟨_, H, I.kept k, ?_, q⟩
  by_cases hj : j > i
  · rw [if_pos hj, if_pos hj]; exact ⟨_, rfl⟩
  · rw [if_neg hj, if_neg hj]; exact ⟨_, rfl⟩
theorem call_min2 (hc : X.calm = true) : CallR X (.builtin "min") (fun xs H Q => ∃ i j, xs = [.int i, .int j] ∧ Q (.int (if j < i then j else i)) H) := by
  intro pins s σ H xs us Q I r h
  obtain ⟨i, j, rfl, q⟩ := h
  obtain ⟨u, w', rfl, ⟨t, rfl⟩, ⟨t', rfl⟩⟩ := vals2 r
  refine min_two_ints (I.ok.hd hc) fun h' tk k => ⟨_, H, I.kept k, ?_, q⟩
  by_cases hj : j < i
  · rw [if_pos hj, if_pos hj]; exact ⟨_, rfl⟩
  · rw [if_neg hj, if_neg hj]; exact ⟨_, rfl⟩
end
end L2

namespace L2
open PySem PySem.Spec PyProof.Rows

structure ObjM (h : Heap) (x dx C : Addr) (mA : Str → Option Value) : Prop where
  obj : h.get? x = some (PySem.W.instObj C dx)
  ns : h.Ns1 dx mA
  ne : dx ≠ x

theorem lookIn_ns {h : Heap} {dx : Addr} {mA : Str → Option Value} (n : h.Ns1 dx mA) : ∃ od, h.get? dx = some od ∧ ∀ name, PySem.W.lookIn name od = some (mA name) := by
  obtain ⟨o, es, ep, ho, hd, hk, _, hm⟩ := n
  refine ⟨o, ho, fun name => ?_⟩
  have e := hm name
  unfold nsFind findBy at e
  rw [← Array.find?_toList] at e
  unfold PySem.W.lookIn
  rw [hd]
  dsimp only
  split
  · rename_i y q
    rw [q] at e
    exact congrArg some e
  · rename_i q
    rw [q] at e
    have a : es.toList.any (·.refKey) = false := by
      rw [List.any_eq_false]
      intro y hy
      obtain ⟨z, t, hkey⟩ := hk y (Array.mem_toList_iff.mp hy)
      simp [DictEntry.refKey, hkey]
    have a' : ¬ es.toList.any (·.refKey) = true := by rw [a]; exact Bool.false_ne_true
    rw [if_neg a']
    exact congrArg some e

theorem ObjM.look {h : Heap} {x dx C : Addr} {mA : Str → Option Value} (I : ObjM h x dx C mA) : ∃ od, PySem.W.InstAt h x (PySem.W.instObj C dx) C (some od) ∧ ∀ name, PySem.W.lookIn name od = some (mA name) :=
  let ⟨od, ho, hl⟩ := lookIn_ns I.ns
  ⟨od, ⟨I.obj, rfl, rfl, ho⟩, hl⟩

section
variable {prog : Program} {w : World} {A : Around} {E : Value → Shared → Prop} {s : Shared} {K : PySem.W.Frag} {x dx C f : Addr} {mA : Str → Option Value} {name : Str} {v : Value}

theorem get_map {expr : Bool} {Q : Value → Shared → Prop} (X : K.In s.heap) (I : ObjM s.heap x dx C mA) (hg : PySem.W.plainGet K C name = true) (hh : PySem.W.hasDictIn K C = true)
    (ha : PySem.W.findIn K (.ref C) name = some none) (hv : mA name = some v) (hv' : PySem.W.handedIn v = true) (h : Q v { s with toks := s.toks + 1 }) :
    wpAny (model prog w) A (getAttr (.ref x) name expr) Q E s := by
  obtain ⟨od, J, hl⟩ := I.look
  exact PySem.W.get_value X J (PySem.W.plainGet_of hg).1 (PySem.W.findObj_own hh ha rfl (by rw [hl, hv])) hv' h


theorem get_meth {pl : Sem Bool} {Q : Value × List Value → Shared → Prop} (X : K.In s.heap) (I : ObjM s.heap x dx C mA) (hg : PySem.W.plainGet K C name = true)
    (hf : PySem.W.findIn K (.ref C) name = some (some (.ref f))) (ht : PySem.W.isFn K (.ref f) = true) (hv : mA name = none) (h : Q (.ref f, [.ref x]) s) :
    wpAny (model prog w) A (getMethod (.ref x) name pl) Q E s := by
  obtain ⟨od, J, hl⟩ := I.look
  exact PySem.W.method_fn X J (PySem.W.plainGet_of hg).1 (PySem.W.plainGet_of hg).2 hf (beq_iff_eq.mp ht) (by show (PySem.W.lookIn name od).map (·.isSome) = some false; rw [hl, hv]; rfl) h

theorem set_map {ns : List Str} {Q : Unit → Shared → Prop} (X : K.In s.heap) (I : ObjM s.heap x dx C mA)
    (hs : PySem.W.findIn K (.ref C) "__setattr__" = some (some (.builtin "object.__setattr__"))) (hp : PySem.W.plainOver K C = true) (ht : PySem.W.takerIn K C name = some none) (hh : PySem.W.hasDictIn K C = true)
    (hw : PySem.Within mA ns) (hsz : ns.length ≤ sizeLine)
    (h : ∀ h', ObjM h' x dx C (fun y => if y = name then some v else mA y) → Heap.SameBut dx s.heap h' → Q () { s with heap := h', toks := s.toks + 2 }) :
    wpAny (model prog w) A (setAttr (.ref x) name v) Q E s := by
  obtain ⟨od, J, hl⟩ := I.look
  refine PySem.W.set_plain X J hs (PySem.W.osa_open (s := { s with toks := s.toks + 1 }) (r := none) X J hp ht fun b => ?_)
  obtain ⟨cd, hc, hd'⟩ := PySem.W.any_some hh
  have hx : s.heap.get? x = some ⟨.ref C, some dx, .plain, #[]⟩ := I.obj
  refine wpAny_bind (wpAny_pure (wpAny_bind (wpAny_bind (wpAny_loadPart hx (wpAny_bind (PySem.W.Looks.here (s := { s with toks := s.toks + 1 }) (PySem.W.looks_clsIn X hc) ?_))))))
  rw [hd']
  refine wpAny_pure (a := some dx) (wpAny_bind (wpAny_pure (wpAny_bind ?_)))
  refine wpAny_nsSet1 (s := { s with toks := s.toks + 1 }) I.ns fun h' hn2 hs2 => ?_
  obtain ⟨oD, esD, epD, hoD, hdD, hcD⟩ := hn2.count (PySem.Within.cons name v hw)
  refine wpAny_bind (wpAny_lookBehind hoD (by rw [hdD]; exact pastItsLine_dict (Nat.le_trans hcD (by rw [List.length_cons]; omega))) ?_)
  exact wpAny_pure (h _ ⟨(hs2.2 _ (Ne.symm I.ne)).trans I.obj, hn2, I.ne⟩ hs2)

theorem make_map {R : Result → Shared → Prop} {vs : List Value} {kw : List (Str × Value)} (X : K.In s.heap) (hm : PySem.W.makesIn K C = true)
    (hi : PySem.W.findIn K (.ref C) "__init__" = some (some (.ref f))) (hf : PySem.W.typeIn K (.ref f) = some (.type "function"))
    (h : codeAny (model prog w) (A.under (.builtin "type.__call__" ⟨.ref C :: vs, kw⟩)) (.call (.ref f) ⟨.ref (s.heap.objs.size + 1) :: vs, kw⟩) (PySem.W.InitBack (s.heap.objs.size + 1) R)
      { s with heap := (s.heap.push PySem.W.emptyDict).push (PySem.W.instObj C s.heap.objs.size) }) :
    codeAny (model prog w) A (.call (.ref C) ⟨vs, kw⟩) R s := by
  obtain ⟨hh, g, d, t, os⟩ := s
  exact PySem.W.make_core (PySem.W.makes_of X hm) (PySem.W.looks_findIn X hi) (fun self => PySem.W.bind_fn X self hf) (.inl rfl) h
end

def putF (f : Str) (v : V) : List (Str × V) → List (Str × V)
  | [] => [(f, v)]
  | (g, x) :: r => if g = f then (g, v) :: r else (g, x) :: putF f v r
theorem lookup_putF (f g : Str) (v : V) : ∀ fs : List (Str × V), (putF f v fs).lookup g = if g = f then some v else fs.lookup g
  | [] => by
    show List.lookup g [(f, v)] = _
    by_cases h : g = f
    · have hb : (g == f) = true := beq_iff_eq.mpr h
      simp only [List.lookup, hb, if_pos h]
    · have hb : (g == f) = false := beq_eq_false_iff_ne.mpr h
      simp only [List.lookup, hb, if_neg h]
  | (k, x) :: r => by
    have ih := lookup_putF f g v r
    rw [show putF f v ((k, x) :: r) = (if k = f then (k, v) :: r else (k, x) :: putF f v r) from rfl]
    by_cases hk : k = f
    · rw [if_pos hk]
      by_cases h : g = k
      · have hb : (g == k) = true := beq_iff_eq.mpr h
        simp only [List.lookup, hb, if_pos (h.trans hk)]
      · have hb : (g == k) = false := beq_eq_false_iff_ne.mpr h
        simp only [List.lookup, hb, if_neg (fun e : g = f => h (e.trans hk.symm))]
    · rw [if_neg hk]
      by_cases h : g = k
      · have hb : (g == k) = true := beq_iff_eq.mpr h
        simp only [List.lookup, hb, if_neg (fun e : g = f => hk (h.symm.trans e))]
      · have hb : (g == k) = false := beq_eq_false_iff_ne.mpr h
        simp only [List.lookup, hb]
        exact ih
theorem keys_putF (f : Str) (v : V) : ∀ fs : List (Str × V), f ∈ (putF f v fs).map (·.1) ∧ ∀ g, g ∈ fs.map (·.1) → g ∈ (putF f v fs).map (·.1)
  | [] => ⟨by simp [putF], fun g h => by simp at h⟩
  | (k, x) :: r => by
    obtain ⟨i1, i2⟩ := keys_putF f v r
    rw [show putF f v ((k, x) :: r) = (if k = f then (k, v) :: r else (k, x) :: putF f v r) from rfl]
    by_cases hk : k = f
    · rw [if_pos hk]
      subst hk
      exact ⟨by simp, fun g h => by simpa using h⟩
    · rw [if_neg hk]
      refine ⟨?_, fun g h => ?_⟩
      · rw [List.map_cons]
        exact List.mem_cons_of_mem _ i1
      · rw [List.map_cons] at h ⊢
        rcases List.mem_cons.mp h with e | e
        · exact List.mem_cons.mpr (.inl e)
        · exact List.mem_cons_of_mem _ (i2 g e)
theorem length_putF (f : Str) (v : V) : ∀ fs : List (Str × V), (putF f v fs).length ≤ fs.length + 1
  | [] => by simp [putF]
  | (k, x) :: r => by
    have ih := length_putF f v r
    rw [show putF f v ((k, x) :: r) = (if k = f then (k, v) :: r else (k, x) :: putF f v r) from rfl]
    by_cases hk : k = f
    · rw [if_pos hk, List.length_cons, List.length_cons]; omega
    · rw [if_neg hk, List.length_cons, List.length_cons]; omega

theorem RelO.some_of {v : V} {o : Option Value} (r : RelO (some v) o) : ∃ u, o = some u ∧ RelV v u := by
  cases o with
  | none => exact (show False from r).elim
  | some u => exact ⟨u, rfl, r⟩
theorem RelO.none_of {o : Option Value} (r : RelO none o) : o = none := by
  cases o with
  | none => rfl
  | some u => exact (show False from r).elim
theorem handed_of {v : V} {u : Value} (r : RelV v u) : PySem.W.handedIn u = true := by
  cases v with
  | non => cases (show u = Value.none from r); rfl
  | bl b => cases (show u = Value.bool b from r); rfl
  | int i => obtain ⟨t, e⟩ := (show ∃ t, u = Value.int i t from r); cases e; rfl
  | str x => obtain ⟨t, e⟩ := (show ∃ t, u = Value.str x t from r); cases e; rfl
  | byt b => obtain ⟨t, e⟩ := (show ∃ t, u = Value.bytes b t from r); cases e; rfl
  | flt b => obtain ⟨t, e⟩ := (show ∃ t, u = Value.float b t from r); cases e; rfl
  | ref a => cases (show u = Value.ref a from r); rfl
  | ty n => cases (show u = Value.type n from r); rfl

section
variable {P : Program} {w : World} {H H' : Hp} {h h' : Heap} {a C dx : Addr} {fs fs' : List (Str × V)}
theorem ins_get (hok : HOk P w H h) (e : H a = some (.ins C dx fs)) : ∃ mA, ObjM h a dx C mA ∧ (∀ f, RelO (fs.lookup f) (mA f)) ∧ PySem.Within mA (fs.map (·.1)) ∧ fs.length ≤ 1000 ∧ H dx = some (.own a) := by
  obtain ⟨d, z, ne, ob, mA, n, r, q⟩ := (show ObjOk P w H h a (.ins C dx fs) from hok a _ e)
  exact ⟨mA, ⟨ob, n, ne⟩, r, q, z, d⟩
end

structure Cls (K : PySem.W.Frag) (C : Addr) : Prop where
  pg : PySem.W.plainGet K C Str.empty = true
  hd : PySem.W.hasDictIn K C = true
  po : PySem.W.plainOver K C = true
  sa : PySem.W.findIn K (.ref C) "__setattr__" = some (some (.builtin "object.__setattr__"))
theorem Cls.get {K : PySem.W.Frag} {C : Addr} (c : Cls K C) (f : Str) : PySem.W.plainGet K C f = true := c.pg
def NoAttr (K : PySem.W.Frag) (C : Addr) (f : Str) : Prop := PySem.W.findIn K (.ref C) f = some none
theorem NoAttr.taker {K : PySem.W.Frag} {C : Addr} {f : Str} (n : NoAttr K C f) : PySem.W.takerIn K C f = some none := by
  unfold PySem.W.takerIn
  rw [show PySem.W.findIn K (.ref C) f = some none from n]
  rfl
structure Con (K : PySem.W.Frag) (C : Addr) (f : Str) (v : V) (u : Value) : Prop where
  at_ : PySem.W.findIn K (.ref C) f = some (some u)
  rel : RelV v u
  get : PySem.W.specialIn K u "__get__" = some none
  cp : PySem.W.copiedNames.contains f = false
structure Meth (K : PySem.W.Frag) (C : Addr) (m : Str) (f : Addr) : Prop where
  at_ : PySem.W.findIn K (.ref C) m = some (some (.ref f))
  fn : PySem.W.isFn K (.ref f) = true
  kp : PySem.W.keepIn K (.ref f) = true

section
variable {X : Cx} {pins : List (Addr × Obj)} {σ : St} {H : Hp} {s : Shared} {a C dx : Addr} {fs : List (Str × V)} {f : Str} {v : V} {A : Around} {E : Value → Shared → Prop}

theorem getattr_ok {b : Bool} {Q : Value → Shared → Prop} (I : Inv X pins σ H s) (e : H a = some (.ins C dx fs)) (c : Cls X.K C) (n : NoAttr X.K C f) (l : fs.lookup f = some v)
    (h : ∀ u s', Inv X pins σ H s' → RelV v u → Q u s') : wpAny (model X.prog X.w) A (getAttr (.ref a) f b) Q E s := by
  obtain ⟨mA, O, r, _, _, _⟩ := ins_get I.hok e
  obtain ⟨u, hu, ru⟩ := RelO.some_of (v := v) (o := mA f) (by rw [← l]; exact r f)
  exact get_map I.kIn O (c.get f) c.hd n hu (handed_of ru) (h u _ (I.tok _) ru)


theorem getmeth_ok {m : Str} {g : Addr} {pl : Sem Bool} {Q : Value × List Value → Shared → Prop} (I : Inv X pins σ H s) (e : H a = some (.ins C dx fs)) (c : Cls X.K C) (k : Meth X.K C m g) (l : fs.lookup m = none)
    (h : Q (.ref g, [.ref a]) s) : wpAny (model X.prog X.w) A (getMethod (.ref a) m pl) Q E s := by
  obtain ⟨mA, O, r, _, _, _⟩ := ins_get I.hok e
  have hn : mA m = none := RelO.none_of (by rw [← l]; exact r m)
  exact get_meth I.kIn O (c.get m) k.at_ k.fn hn h

theorem setattr_ok {y : V} {u : Value} {Q : Unit → Shared → Prop} (I : Inv X pins σ H s) (e : H a = some (.ins C dx fs)) (c : Cls X.K C) (n : NoAttr X.K C f) (hl : fs.length < 1000) (ry : RelV y u)
    (h : ∀ s', Inv X pins σ (upd H a (.ins C dx (putF f y fs))) s' → Q () s') : wpAny (model X.prog X.w) A (setAttr (.ref a) f u) Q E s := by
  obtain ⟨mA, O, r, wi, _, ho⟩ := ins_get I.hok e
  have hz : (fs.map (·.1)).length ≤ sizeLine := by rw [List.length_map, sizeLine_eq]; omega
  refine set_map I.kIn O c.sa c.po n.taker c.hd wi hz fun h' O' sb => h _ ?_
  have hd : ∃ o, h'.get? dx = some o := let ⟨o, _, _, e', _⟩ := O'.ns; ⟨o, e'⟩
  refine I.write (x := a) (e := dx) (by rw [e]; exact True.intro) (.inr ho) (fun b q hb z => (sb.2 b hb).trans z) hd ?_
  refine ⟨by rw [upd_ne O.ne]; exact ho, ?_, O.ne, O'.obj, _, O'.ns, fun g => ?_, fun g hg => ?_⟩
  · have := length_putF f y fs; omega
  · show RelO ((putF f y fs).lookup g) (if g = f then some u else mA g)
    rw [lookup_putF]
    by_cases q : g = f
    · rw [if_pos q, if_pos q]; exact ry
    · rw [if_neg q, if_neg q]; exact r g
  · by_cases q : g = f
    · rw [q]; exact (keys_putF f y fs).1
    · refine (keys_putF f y fs).2 g (wi g fun z => hg ?_)
      show (if g = f then some u else mA g) = none
      rw [if_neg q]; exact z

theorem Inv.made (I : Inv X pins σ H s) : Inv X pins σ (upd (upd H s.heap.objs.size (.own (s.heap.objs.size + 1))) (s.heap.objs.size + 1) (.ins C s.heap.objs.size []))
    { s with heap := (s.heap.push PySem.W.emptyDict).push (PySem.W.instObj C s.heap.objs.size) } := by
  have e1 : (s.heap.push PySem.W.emptyDict).get? s.heap.objs.size = some PySem.W.emptyDict := Heap.get?_push_size s.heap rfl
  have e2 : ((s.heap.push PySem.W.emptyDict).push (PySem.W.instObj C s.heap.objs.size)).get? (s.heap.objs.size + 1) = some (PySem.W.instObj C s.heap.objs.size) := by
    have := Heap.get?_push_size (s.heap.push PySem.W.emptyDict) (o := PySem.W.instObj C s.heap.objs.size) rfl
    rwa [Heap.size_push] at this
  have e3 : (s.heap.push PySem.W.emptyDict).Ns s.heap.objs.size (fun _ => none) := ⟨PySem.W.emptyDict, #[], _, e1, rfl, (fun e he => absurd he (by simp)), fun _ => rfl⟩
  have I1 := I.laid (a := s.heap.objs.size) (o := .own (s.heap.objs.size + 1)) (h' := s.heap.push PySem.W.emptyDict) (t' := s.toks) (fun b u q => Heap.get?_push_of_some _ q) (Nat.le_refl _) ⟨_, e1⟩
  refine I1.laid (a := s.heap.objs.size + 1) (o := .ins C s.heap.objs.size []) (t' := s.toks) (fun b u q => Heap.get?_push_of_some _ q) (Nat.le_of_eq (Heap.size_push _ _)) ?_
  have ne : s.heap.objs.size ≠ s.heap.objs.size + 1 := Nat.ne_of_lt (Nat.lt_succ_self _)
  refine ⟨by rw [upd_ne ne, upd_same], Nat.zero_le _, ne, e2, fun _ => none, (Heap.Ns1.of_empty e3).at fun o q => Heap.get?_push_of_some _ q, fun _ => True.intro, fun y hy => absurd rfl hy⟩

theorem attr_of {prog : Program} {w : World} {env : Env} {e : Expr} {f : Str} {pos : Pos} {s : Shared} {Q : Value → Shared → Prop} (hb : attributeBase e f env (eval e env) = eval e env)
    (h : wpAny (model prog w) A (eval e env) (fun o s₁ => wpAny (model prog w) A (getAttr o f true) Q E s₁) E s) : wpAny (model prog w) A (eval (.Attribute e f pos) env) Q E s :=
  Attribute_any_ h (by rw [arm_eval_Attribute, hb])
end

def tFld (K : PySem.W.Frag) (ta : TE) (f : Str) : TE := fun σ H Q => ta σ H fun x H1 => ∃ a C dx fs v, x = .ref a ∧ H1 a = some (.ins C dx fs) ∧ Cls K C ∧ NoAttr K C f ∧ fs.lookup f = some v ∧ Q v H1
def sFld (K : PySem.W.Frag) (ta tv : TE) (f : Str) : TS := fun D σ H => tv σ H fun y H1 => ta σ H1 fun x H2 => ∃ a C dx fs, x = .ref a ∧ H2 a = some (.ins C dx fs) ∧ Cls K C ∧ NoAttr K C f ∧ fs.length < 1000 ∧
  D.nx σ (upd H2 a (.ins C dx (putF f y fs)))

section
variable {X : Cx} {o e value : Expr} {f : Str} {pos pos' tpos : Pos} {ta tv : TE}
theorem pe_fld (he : PE X e ta) (hb : attributeBase e f X.env (eval e X.env) = eval e X.env) : PE X (.Attribute e f pos) (tFld X.K ta f) := by
  intro pins s σ H Q I h
  refine attr_of hb (thn (he pins s σ H _ I h) fun u s1 ⟨x, H1, I1, rx, a, C, dx, fs, v, ex, ea, c, n, l, q⟩ => ?_)
  subst ex
  obtain rfl : u = Value.ref a := rx
  exact getattr_ok I1 ea c n l fun u' s2 I2 ru => ⟨v, H1, I2, ru, q⟩
theorem ps_fld (ha : PE X o ta) (hv : PE X value tv) (hs : swapsWith value (some (.Attribute o f pos')) pos.line X.env = pure false) : PS X (.Assign [.Attribute o f pos'] value pos) (sFld X.K ta tv f) := by
  intro pins s σ H D I h
  refine plainObj_wpAny_Assign_Attribute (thn (hv pins s σ H _ I h) fun u s1 ⟨y, H1, I1, ry, q⟩ => thn (ha pins s1 σ H1 _ I1 q) fun ov s2 ⟨x, H2, I2, rx, a, C, dx, fs, ex, ea, c, n, l, q2⟩ => ?_) hs
  subst ex
  obtain rfl : ov = Value.ref a := rx
  exact setattr_ok I2 ea c n l ry fun s3 I3 => ⟨σ, _, I3, q2⟩

end

section
variable {X : Cx} {pins : List (Addr × Obj)} {σ : St} {H : Hp} {s : Shared} {A : Around} {E : Value → Shared → Prop} {Q : Value → Shared → Prop} {c : Value} {b : Bool}
inductive TyOf (K : PySem.W.Frag) (H : Hp) : V → Value → Prop where
  | non : TyOf K H .non (.type "NoneType")
  | bl (x : Bool) : TyOf K H (.bl x) (.type "bool")
  | int (i : Int) : TyOf K H (.int i) (.type "int")
  | str (x : Str) : TyOf K H (.str x) (.type "str")
  | flt (x : UInt64) : TyOf K H (.flt x) (.type "float")
  | lst {a : Addr} {xs : List V} (e : H a = some (.lst xs)) : TyOf K H (.ref a) (.type "list")
  | frz {a : Addr} {o : Obj} {xs : List V} (e : H a = some (.frz o (.lst xs))) : TyOf K H (.ref a) (.type "list")
  | tup {a : Addr} {xs : List V} (e : H a = some (.tup xs)) : TyOf K H (.ref a) (.type "tuple")
  | dK {a : Addr} {kvs : List (Key × V)} (e : H a = some (.dK kvs)) : TyOf K H (.ref a) (.type "dict")
  | dT {a : Addr} {kvs : List (List Key × V)} (e : H a = some (.dT kvs)) : TyOf K H (.ref a) (.type "dict")
  | ins {a C dx : Addr} {fs : List (Str × V)} (e : H a = some (.ins C dx fs)) (cl : Cls K C) (ha : PySem.W.findIn K (.ref C) "__class__" = some (some (.builtin "object.__class__")))
      (hn : PySem.W.specialIn K (.builtin "object.__class__") "__get__" = some (some (.builtin "getset_descriptor.__get__"))) (htk : PySem.W.takesIn K (.builtin "object.__class__") = some true)
      (hm : PySem.W.mroIn K C (.type "object") = some true) : TyOf K H (.ref a) (.ref C)
theorem isinst_ok {x : V} {u t : Value} (I : Inv X pins σ H s) (rx : RelV x u) (ty : TyOf X.K H x t) (e : PySem.W.kitOne X.K t c = some b) (h : ∀ tk, Q (.bool b) { s with toks := tk }) :
    wpAny (model X.prog X.w) A (call (.builtin "isinstance") [u, c]) Q E s := by
  cases ty with
  | non => cases (show u = Value.none from rx); exact PySem.W.kia_one PySem.W.kitx_none I.kIn True.intro e (fun z => nomatch z) h
  | bl y => cases (show u = Value.bool y from rx); exact PySem.W.kia_one PySem.W.kitx_bool I.kIn True.intro e (fun z => nomatch z) h
  | int i => obtain ⟨t, q⟩ := (show ∃ t, u = Value.int i t from rx); cases q; exact PySem.W.kia_one PySem.W.kitx_int I.kIn True.intro e (fun z => nomatch z) h
  | str y => obtain ⟨t, q⟩ := (show ∃ t, u = Value.str y t from rx); cases q; exact PySem.W.kia_one PySem.W.kitx_str I.kIn True.intro e (fun z => nomatch z) h
  | flt y => obtain ⟨t, q⟩ := (show ∃ t, u = Value.float y t from rx); cases q; exact PySem.W.kia_one PySem.W.kitx_float I.kIn True.intro e (fun z => nomatch z) h
  | @lst a xs ea =>
    cases (show u = Value.ref a from rx)
    obtain ⟨_, _, n, _, h1⟩ := (show ObjOk X.prog X.w H s.heap a (.lst xs) from I.hok a _ ea)
    exact PySem.W.kia_one PySem.W.kitx_list I.kIn ⟨_, h1, rfl⟩ e (fun z => nomatch z) h
  | @frz a ob xs ea =>
    cases (show u = Value.ref a from rx)
    obtain ⟨_, _, _, n, _, h1⟩ := (show ObjOk X.prog X.w H s.heap a (.frz ob (.lst xs)) from I.hok a _ ea)
    exact PySem.W.kia_one PySem.W.kitx_list I.kIn ⟨_, h1, rfl⟩ e (fun z => nomatch z) h
  | @tup a xs ea =>
    cases (show u = Value.ref a from rx)
    obtain ⟨_, _, _, p⟩ := (show ObjOk X.prog X.w H s.heap a (.tup xs) from I.hok a _ ea)
    obtain ⟨o, h1, h2, _⟩ := p
    exact PySem.W.kia_one PySem.W.kitx_tuple I.kIn ⟨o, h1, h2⟩ e (fun z => nomatch z) h
  | @dK a kvs ea =>
    cases (show u = Value.ref a from rx)
    obtain ⟨_, _, vs, _, p⟩ := (show ObjOk X.prog X.w H s.heap a (.dK kvs) from I.hok a _ ea)
    obtain ⟨o, es, ep, h1, h2, _⟩ := p
    exact PySem.W.kia_one PySem.W.kitx_dict I.kIn ⟨o, h1, h2.1⟩ e (fun z => nomatch z) h
  | @dT a kvs ea =>
    cases (show u = Value.ref a from rx)
    obtain ⟨_, _, xs, _, o, es, ep, h1, h2, _⟩ := (show ObjOk X.prog X.w H s.heap a (.dT kvs) from I.hok a _ ea)
    exact PySem.W.kia_one PySem.W.kitx_dict I.kIn ⟨o, h1, h2.1⟩ e (fun z => nomatch z) h
  | @ins a C dx fs ea cl ha hn htk hm =>
    cases (show u = Value.ref a from rx)
    obtain ⟨mA, O, _⟩ := ins_get I.hok ea
    obtain ⟨od, J, _⟩ := O.look
    exact PySem.W.kia_one (PySem.W.kitx_own (cl.get _) cl.hd ha hn htk hm) I.kIn J e (fun z => nomatch z) h
end
end L2

namespace L2
open PySem PySem.Spec PyProof.Rows

structure Room (k : Nat) (A : Around) : Prop where
  hd : A.handled = none
  dp : A.depth + 3 * k + 5 < recursionLimit
  un : A.units + 16 * k + 200 < cLine
  gd : A.guards = some []
theorem Room.mono {j k : Nat} {A : Around} (r : Room k A) (h : j ≤ k) : Room j A := ⟨r.hd, by have := r.dp; omega, by have := r.un; omega, r.gd⟩
theorem Room.deeper {k : Nat} {A : Around} (r : Room (k + 1) A) (env : Env) : Room k (A.deeper env) :=
  ⟨r.hd, by have := r.dp; show A.depth + 1 + 3 * k + 5 < _; omega, by have := r.un; show A.units + 3 + 16 * k + 200 < _; omega, r.gd⟩
theorem Room.in1 {k : Nat} {A : Around} (r : Room (k + 1) A) : Room k A.in1 :=
  ⟨r.hd, by have := r.dp; show A.depth + 3 * k + 5 < _; omega, by have := r.un; show A.units + 1 + 16 * k + 200 < _; omega, r.gd⟩
theorem make_depth {A : Around} {C : Addr} {us : List Value} {kw : List (Str × Value)} : (A.under (.builtin "type.__call__" ⟨.ref C :: us, kw⟩)).depth = A.depth + 1 := by
  first | rfl | simp [Around.under, Code.weight, Code.isCreation, Code.isGuard, Code.isCaller, Code.frames, Code.isFrame, guardIds]
theorem make_units {A : Around} {C : Addr} {us : List Value} {kw : List (Str × Value)} : (A.under (.builtin "type.__call__" ⟨.ref C :: us, kw⟩)).units = A.units + 1 := by
  first | rfl | simp [Around.under, Code.cUnits, Code.frames, Code.isFrame]
theorem Room.make {k : Nat} {A : Around} (r : Room (k + 1) A) (C : Addr) (us : List Value) (kw : List (Str × Value)) : Room k (A.under (.builtin "type.__call__" ⟨.ref C :: us, kw⟩)) :=
  ⟨r.hd, by have := r.dp; rw [make_depth]; omega, by have := r.un; rw [make_units]; omega, r.gd⟩
theorem Room.depth {k : Nat} {A : Around} (r : Room k A) : A.depth < recursionLimit := by have := r.dp; omega
theorem Room.units {k : Nat} {A : Around} (r : Room k A) : A.units + 64 < cLine := by have := r.un; omega
theorem Room.units0 {k : Nat} {A : Around} (r : Room k A) : A.units < cLine := by have := r.un; omega

def tNil : TA := fun _ H Q => Q [] H
def tCons (ta : TE) (tr : TA) : TA := fun σ H Q => ta σ H fun x H1 => tr σ H1 fun xs H2 => Q (x :: xs) H2
section
variable {X : Cx} {e : Expr} {es : List Expr} {te : TE} {t : TA} {pos : Pos}
theorem pa_nil : PA X [] tNil := fun _ _ _ _ H Q I h => Calls.spliced_nil ⟨[], H, I, .nil, h⟩
theorem pa_cons (ha : PE X e te) (hr : PA X es t) (hs : starEach (e :: es) X.env = (false, eval e X.env) :: starEach es X.env := by rfl) : PA X (e :: es) (tCons te t) := by
  intro pos pins s σ H Q I h
  rw [hs]
  show wpAny _ _ (spliced ((false, eval e X.env) :: backTo pos (starEach es X.env))) _ _ s
  refine Calls.spliced_cons (thn (ha pins s σ H _ I h) fun u s1 ⟨x, H1, I1, r1, q1⟩ => ?_)
  exact thn (hr pos pins s1 σ H1 _ I1 q1) fun us s2 ⟨xs, H2, I2, r2, q2⟩ => ⟨x :: xs, H2, I2, .cons r1 r2, q2⟩

def tTup (t : TA) : TE := fun σ H Q => t σ H fun xs H1 => xs.length ≤ sizeLine ∧ ∀ p, H1 p = none → Q (.ref p) (upd H1 p (.tup xs))
def tLst (t : TA) : TE := fun σ H Q => t σ H fun xs H1 => xs.length ≤ sizeLine ∧ ∀ p, H1 p = none → Q (.ref p) (upd H1 p (.lst xs))
theorem pe_tup {x1} (h : PA X es t) : PE X (.Tuple es x1 pos) (tTup t) := by
  intro pins s σ H Q I hq
  refine wpAny_Tuple_spliced (thn (h pos pins s σ H _ I hq) fun us s1 ⟨xs, H1, I1, r, z, q⟩ => ⟨by rw [← r.length]; exact z, ?_⟩)
  have hf : H1 s1.heap.objs.size = none := I1.hok.fresh (Nat.le_refl _)
  refine ⟨.ref s1.heap.objs.size, upd H1 s1.heap.objs.size (.tup xs), I1.laid (t' := s1.toks) (fun b u e => Heap.get?_push_of_some _ e) (Nat.le_refl _) ?_, rfl, q _ hf⟩
  exact ⟨z, us, r, ⟨_, Heap.get?_push_size _ rfl, rfl, _, rfl⟩⟩
theorem pe_lst (h : PA X es t) : PE X (.List es pos) (tLst t) := by
  intro pins s σ H Q I hq
  refine wpAny_List_spliced (thn (h pos pins s σ H _ I hq) fun us s1 ⟨xs, H1, I1, r, z, q⟩ => ⟨by rw [← r.length]; exact z, ?_⟩)
  have hf : H1 s1.heap.objs.size = none := I1.hok.fresh (Nat.le_refl _)
  refine ⟨.ref s1.heap.objs.size, upd H1 s1.heap.objs.size (.lst xs), I1.laid (t' := s1.toks) (fun b u e => Heap.get?_push_of_some _ e) (Nat.le_refl _) ?_, rfl, q _ hf⟩
  exact ⟨z, us, 0, r, Heap.get?_push_size _ rfl⟩
end

abbrev Sp := List V → Hp → VK → XK → Prop
abbrev CXT := List Env → Hp → Shared → XK → Value → Shared → Prop

structure Env0 (P : Program) (w : World) (K : PySem.W.Frag) (mg : Str → Option Value) (base : Heap) (A : Around) (outer : List Env) (s : Shared) (H : Hp) : Prop where
  frames : A.frames = some outer
  mod : Mod K mg base
  bs : ∀ b o, base.get? b = some o → s.heap.get? b = some o ∧ H b = none
  bsz : base.objs.size ≤ s.heap.objs.size
  funs : s.heap.FunFrames base outer
  frf : ∀ b ∈ frs outer, H b = none
  hok : HOk P w H s.heap
  bare : AllBare s.gens
def CE (outer : List Env) (P : Program) (w : World) (H : Hp) (s : Shared) (Q : VK) (u : Value) (s' : Shared) : Prop :=
  ∃ v H', s'.os = s.os ∧ AllBare s'.gens ∧ Un (frs outer) [] H H' s.heap s'.heap ∧ HOk P w H' s'.heap ∧ RelV v u ∧ Q v H'
def CR (CX : CXT) (outer : List Env) (P : Program) (w : World) (H : Hp) (s : Shared) (Q : VK) (E : XK) (r : Result) (s' : Shared) : Prop :=
  match r with
  | .ok (.ret u) => CE outer P w H s Q u s'
  | .ok _ => False
  | .error e => CX outer H s E e s'
structure FnOk (P : Program) (w : World) (K : PySem.W.Frag) (mg : Str → Option Value) (base : Heap) (CX : CXT) (k : Nat) (f : Addr) (fd : FuncData) (ps : List Str) (sp : Sp) : Prop where
  len : ∀ vs H Q E, sp vs H Q E → vs.length = ps.length
  run : ∀ (A : Around) (outer : List Env) (s : Shared) (H : Hp) (args : Args) (us : List Value) (vs : List V) (Q : VK) (E : XK), Room k A → Env0 P w K mg base A outer s H → BindsTo s fd args (ps.zip us) → Vals vs us → sp vs H Q E →
    codeAny (model P w) A (.call (.ref f) args) (CR CX outer P w H s Q E) s
theorem FnOk.mono {P : Program} {w : World} {K : PySem.W.Frag} {mg : Str → Option Value} {base : Heap} {CX : CXT} {j k : Nat} {f : Addr} {fd : FuncData} {ps : List Str} {sp : Sp} (F : FnOk P w K mg base CX j f fd ps sp) (h : j ≤ k) :
    FnOk P w K mg base CX k f fd ps sp := ⟨F.len, fun A outer s H args us vs Q E hr => F.run A outer s H args us vs Q E (hr.mono h)⟩
theorem FnOk.imp {P : Program} {w : World} {K : PySem.W.Frag} {mg : Str → Option Value} {base : Heap} {CX : CXT} {k : Nat} {f : Addr} {fd : FuncData} {ps : List Str} {sp sp' : Sp} (F : FnOk P w K mg base CX k f fd ps sp)
    (h : ∀ vs H Q E, sp' vs H Q E → sp vs H Q E) : FnOk P w K mg base CX k f fd ps sp' :=
  ⟨fun vs H Q E q => F.len vs H Q E (h _ _ _ _ q), fun A outer s H args us vs Q E hr he hb hv hs => F.run A outer s H args us vs Q E hr he hb hv (h _ _ _ _ hs)⟩

theorem Env0.make {P : Program} {w : World} {K : PySem.W.Frag} {mg : Str → Option Value} {base : Heap} {A : Around} {outer : List Env} {s : Shared} {H : Hp} (e : Env0 P w K mg base A outer s H) (C : Addr) (us : List Value) (kw : List (Str × Value)) :
    Env0 P w K mg base (A.under (.builtin "type.__call__" ⟨.ref C :: us, kw⟩)) outer s H := ⟨by first | exact e.frames | (simpa [Around.under, Code.envs, Code.isFrame, pushEnvs] using e.frames), e.mod, e.bs, e.bsz, e.funs, e.frf, e.hok, e.bare⟩
theorem Env0.in1 {P : Program} {w : World} {K : PySem.W.Frag} {mg : Str → Option Value} {base : Heap} {A : Around} {outer : List Env} {s : Shared} {H : Hp} (e : Env0 P w K mg base A outer s H) :
    Env0 P w K mg base A.in1 outer s H := ⟨e.frames, e.mod, e.bs, e.bsz, e.funs, e.frf, e.hok, e.bare⟩

section
variable {X : Cx} {pins : List (Addr × Obj)} {σ : St} {H : Hp} {s s' : Shared}
theorem Inv.env0 (I : Inv X pins σ H s) : Env0 X.prog X.w X.K X.mg X.base X.A X.stack s H :=
  ⟨I.ok.frames, I.ok.mod, I.bs, Nat.le_trans I.ok.bsz I.sz, I.stack, I.stkFree, I.hok, I.bare⟩
theorem Inv.after {Q : VK} {u : Value} (I : Inv X pins σ H s) (h : CE X.stack X.prog X.w H s Q u s') : EP X pins σ Q u s' := by
  obtain ⟨v, H', os, bare, un, hok, r, q⟩ := h
  obtain ⟨hh, g, d, t, os'⟩ := s'
  obtain rfl : os' = s.os := os
  exact ⟨v, H', I.call (h' := hh) (g' := g) (d' := d) (t' := t) (ch := []) un hok bare (fun b z => absurd z (by simp)), r, q⟩
end

def tCall (sp : Sp) (dvs : List V) (E : XK) (t : TA) : TE := fun σ H Q => t σ H fun vs H1 => sp (vs ++ dvs) H1 Q E
def tMeth (C : Addr) (m : Str) (sp : Sp) (dvs : List V) (E : XK) (ta : TE) (t : TA) : TE := fun σ H Q => ta σ H fun x H1 => ∃ a dx fs, x = .ref a ∧ H1 a = some (.ins C dx fs) ∧ fs.lookup m = none ∧
  t σ H1 fun vs H2 => sp (x :: (vs ++ dvs)) H2 Q E
def tMake (C : Addr) (sp : Sp) (dvs : List V) (E : XK) (t : TA) : TE := fun σ H Q => t σ H fun vs H1 => ∀ x dx, H1 x = none → H1 dx = none → dx ≠ x →
  sp (.ref x :: (vs ++ dvs)) (upd (upd H1 dx (.own x)) x (.ins C dx [])) (fun v H2 => v = .non ∧ Q (.ref x) H2) E

def Binds (K : PySem.W.Frag) (fd : FuncData) (ps : List Str) (ds : List Value) : Prop :=
  ∀ (s : Shared) (us : List Value), K.In s.heap → (us ++ ds).length = ps.length → BindsTo s fd ⟨us, []⟩ (ps.zip (us ++ ds))
theorem Binds.all {K : PySem.W.Frag} {fd : FuncData} {ps : List Str} (h : ∀ us : List Value, us.length = ps.length → bindArgs fd ⟨us, []⟩ = pure (ps.zip us)) : Binds K fd ps [] := fun s us _ hl => by
  rw [List.append_nil] at hl ⊢
  exact .of_eq (h us hl)

def Passes (CX : CXT) (X : Cx) (E : XK) : Prop := ∀ (pins : List (Addr × Obj)) (σ : St) (H : Hp) (s : Shared) (e : Value) (s' : Shared), Inv X pins σ H s → CX X.stack H s E e s' → X.xe e s'

section
variable {X : Cx} {CX : CXT} {k : Nat} {f C : Addr} {fd : FuncData} {ps : List Str} {sp : Sp} {dvs : List V} {ds : List Value} {E : XK} {x m : Str} {p pos apos : Pos} {e o : Expr} {es : List Expr} {ta : TE} {t : TA}

theorem run_fn {pins : List (Addr × Obj)} {σ : St} {H : Hp} {s : Shared} {Q : VK} {us : List Value} {vs : List V} (F : FnOk X.prog X.w X.K X.mg X.base CX k f fd ps sp) (hr : Room k X.A) (hb : Binds X.K fd ps ds) (hd : Vals dvs ds) (hx : Passes CX X E)
    (I : Inv X pins σ H s) (r : Vals vs us) (h : sp (vs ++ dvs) H Q E) : wpAny (model X.prog X.w) X.A (call (.ref f) us) (EP X pins σ Q) X.xe s := by
  have r2 : Vals (vs ++ dvs) (us ++ ds) := r.append hd
  have hl : (us ++ ds).length = ps.length := by rw [← r2.length]; exact F.len _ _ _ _ h
  refine wpAny_call (codeAny_mono (F.run X.A X.stack s H ⟨us, []⟩ (us ++ ds) (vs ++ dvs) Q E hr I.env0 (hb s us I.kIn hl) r2 h) fun r s' hq => ?_)
  cases r with
  | error e => exact hx pins σ H s e s' I hq
  | ok fl =>
    cases fl with
    | ret u => exact I.after hq
    | next => exact False.elim hq
    | brk => exact False.elim hq
    | cont => exact False.elim hq

theorem pe_call (F : FnOk X.prog X.w X.K X.mg X.base CX k f fd ps sp) (hr : Room k X.A) (hg : Gl X x) (hm : X.mg x = some (.ref f)) (hk : PySem.W.keepIn X.K (.ref f) = true) (hb : Binds X.K fd ps ds) (hd : Vals dvs ds) (hx : Passes CX X E)
    (ha : PA X (e :: es) t) (hdb : (x == ("__debug__" : Str)) = false := by decide) (he : starEach (e :: es) X.env = (false, eval e X.env) :: starEach es X.env := by rfl) (hpl : (backTo pos (starEach es X.env)).any (·.1) = false := by rfl) :
    PE X (.Call (.Name x p) (e :: es) [] pos) (tCall sp dvs E t) := by
  intro pins s σ H Q I h
  refine wpAny_Call_Name_kw (ld_glob I hg hm ?_ hdb)
  refine PySem.W.callWith_K (h₀ := X.base) I.ok.mod.kin hk (thn (ha pos pins s σ H _ I h) fun us s1 ⟨vs, H1, I1, r, q⟩ => ⟨I1.kIn, ?_⟩) he hpl
  exact run_fn F hr hb hd hx I1 r q

theorem pe_meth {pl : Sem Bool} (he : PE X o ta) (c : Cls X.K C) (hm : Meth X.K C m f) (F : FnOk X.prog X.w X.K X.mg X.base CX k f fd ps sp) (hr : Room k X.A) (hb : Binds X.K fd ps ds) (hd : Vals dvs ds) (hx : Passes CX X E) (ha : PA X (e :: es) t)
    (hst : starEach (e :: es) X.env = (false, eval e X.env) :: starEach es X.env := by rfl) (hpl : (backTo pos (starEach es X.env)).any (·.1) = false := by rfl)
    (ht : eval (.Call (.Attribute o m apos) (e :: es) [] pos) X.env = (do
      let ov ← eval o X.env
      standAt apos.atName
      let (f, first) ← holding [ov] (getMethod ov m pl)
      callWith pos f first (backTo pos (starEach (e :: es) X.env)) (backToKw pos (keywordEach [] X.env))) := by rfl) :
    PE X (.Call (.Attribute o m apos) (e :: es) [] pos) (tMeth C m sp dvs E ta t) := by
  intro pins s σ H Q I h
  refine PySem.W.methodCall_KW (pl := pl) (thn (he pins s σ H _ I h) fun u s1 ⟨x, H1, I1, rx, a, dx, fs, ex, ea, l, q⟩ => ?_) ht
  subst ex
  obtain rfl : u = Value.ref a := rx
  refine getmeth_ok I1 ea c hm l ?_
  refine PySem.W.callWith_K (first := [.ref a]) (h₀ := X.base) I.ok.mod.kin hm.kp (thn (ha pos pins s1 σ H1 _ I1 q) fun us s2 ⟨vs, H2, I2, r, q2⟩ => ⟨I2.kIn, ?_⟩) hst hpl
  exact run_fn (us := .ref a :: us) (vs := .ref a :: vs) F hr hb hd hx I2 (.cons rfl r) q2
theorem pe_meth0 {pl : Sem Bool} (he : PE X o ta) (c : Cls X.K C) (hm : Meth X.K C m f) (F : FnOk X.prog X.w X.K X.mg X.base CX k f fd ps sp) (hr : Room k X.A) (hb : Binds X.K fd ps ds) (hd : Vals dvs ds) (hx : Passes CX X E)
    (ht : eval (.Call (.Attribute o m apos) [] [] pos) X.env = (do
      let ov ← eval o X.env
      standAt apos.atName
      let (f, first) ← holding [ov] (getMethod ov m pl)
      callWith pos f first (backTo pos (starEach [] X.env)) (backToKw pos (keywordEach [] X.env))) := by rfl) :
    PE X (.Call (.Attribute o m apos) [] [] pos) (tMeth C m sp dvs E ta tNil) := by
  intro pins s σ H Q I h
  refine PySem.W.methodCall_KW (pl := pl) (thn (he pins s σ H _ I h) fun u s1 ⟨x, H1, I1, rx, a, dx, fs, ex, ea, l, q⟩ => ?_) ht
  subst ex
  obtain rfl : u = Value.ref a := rx
  refine getmeth_ok I1 ea c hm l ?_
  exact PySem.W.callWith_K0 (first := [.ref a]) I1.kIn hm.kp (run_fn (us := [.ref a]) (vs := [.ref a]) F hr hb hd hx I1 (.cons rfl .nil) q)

structure Mk (K : PySem.W.Frag) (C f : Addr) : Prop where
  makes : PySem.W.makesIn K C = true
  init : PySem.W.findIn K (.ref C) "__init__" = some (some (.ref f))
  fn : PySem.W.isFn K (.ref f) = true
  kp : PySem.W.keepIn K (.ref C) = true

theorem run_make {pins : List (Addr × Obj)} {σ : St} {H : Hp} {s : Shared} {Q : VK} {us : List Value} {vs : List V} (M : Mk X.K C f) (F : FnOk X.prog X.w X.K X.mg X.base CX k f fd ps sp) (hr : Room (k + 1) X.A) (hb : Binds X.K fd ps ds) (hd : Vals dvs ds)
    (hx : Passes CX X E) (I : Inv X pins σ H s) (r : Vals vs us)
    (h : ∀ x dx, H x = none → H dx = none → dx ≠ x → sp (.ref x :: (vs ++ dvs)) (upd (upd H dx (.own x)) x (.ins C dx [])) (fun v H2 => v = .non ∧ Q (.ref x) H2) E) :
    wpAny (model X.prog X.w) X.A (call (.ref C) us) (EP X pins σ Q) X.xe s := by
  have hq := h (s.heap.objs.size + 1) s.heap.objs.size (I.hok.fresh (Nat.le_succ _)) (I.hok.fresh (Nat.le_refl _)) (Nat.ne_of_lt (Nat.lt_succ_self _))
  have I2 := Inv.made (C := C) I
  have r2 : Vals (V.ref (s.heap.objs.size + 1) :: (vs ++ dvs)) (Value.ref (s.heap.objs.size + 1) :: (us ++ ds)) := .cons rfl (r.append hd)
  have hl : (Value.ref (s.heap.objs.size + 1) :: us ++ ds).length = ps.length := by
    have e := r2.length
    rw [F.len _ _ _ _ hq] at e
    exact e.symm
  refine wpAny_call (make_map (f := f) I.kIn M.makes M.init (beq_iff_eq.mp M.fn) (codeAny_mono (F.run _ X.stack _ _ ⟨Value.ref (s.heap.objs.size + 1) :: us, []⟩ (Value.ref (s.heap.objs.size + 1) :: (us ++ ds)) _ _ E (hr.make C us [])
    (I2.env0.make C us []) (hb _ (Value.ref (s.heap.objs.size + 1) :: us) I2.kIn hl) r2 hq) fun r s' hq' => ?_))
  cases r with
  | error e => exact hx pins σ _ _ e s' I2 hq'
  | ok fl =>
    cases fl with
    | ret u =>
      obtain ⟨v, H', I3, rv, ev, q3⟩ := I2.after hq'
      subst ev
      exact ⟨rv, ⟨V.ref (s.heap.objs.size + 1), H', I3, rfl, q3⟩⟩
    | next => exact False.elim hq'
    | brk => exact False.elim hq'
    | cont => exact False.elim hq'
theorem pe_make (M : Mk X.K C f) (F : FnOk X.prog X.w X.K X.mg X.base CX k f fd ps sp) (hr : Room (k + 1) X.A) (hg : Gl X x) (hm : X.mg x = some (.ref C)) (hb : Binds X.K fd ps ds) (hd : Vals dvs ds) (hx : Passes CX X E)
    (ha : PA X (e :: es) t) (hdb : (x == ("__debug__" : Str)) = false := by decide) (he : starEach (e :: es) X.env = (false, eval e X.env) :: starEach es X.env := by rfl) (hpl : (backTo pos (starEach es X.env)).any (·.1) = false := by rfl) :
    PE X (.Call (.Name x p) (e :: es) [] pos) (tMake C sp dvs E t) := by
  intro pins s σ H Q I h
  refine wpAny_Call_Name_kw (ld_glob I hg hm ?_ hdb)
  refine PySem.W.callWith_K (h₀ := X.base) I.ok.mod.kin M.kp (thn (ha pos pins s σ H _ I h) fun us s1 ⟨vs, H1, I1, r, q⟩ => ⟨I1.kIn, ?_⟩) he hpl
  exact run_make M F hr hb hd hx I1 r q
end

section
variable {X : Cx} {CX : CXT} {k : Nat} {f C : Addr} {fd : FuncData} {ps ks : List Str} {sp : Sp} {E : XK} {x m : Str} {p pos apos kpos : Pos} {e o : Expr} {es : List Expr} {kws : List Keyword} {te ta : TE} {t tk : TA} {nm : Option Str}

structure KBinds (K : PySem.W.Frag) (fd : FuncData) (ps ks : List Str) (g : List Value → List Value → List Value) (gV : List V → List V → List V) : Prop where
  to : ∀ (s : Shared) (us ws : List Value), K.In s.heap → (g us ws).length = ps.length → BindsTo s fd ⟨us, ks.zip ws⟩ (ps.zip (g us ws))
  rel : ∀ {vs : List V} {us : List Value} {zs : List V} {ws : List Value}, Vals vs us → Vals zs ws → Vals (gV vs zs) (g us ws)
variable {g : List Value → List Value → List Value} {gV : List V → List V → List V}
end

structure FnScope (N P : List Str) (sc : Scope) : Prop where
  kind : sc.kind = .function
  co : sc.isCoroutine = false
  gen : sc.isGenerator = false
  nd : N.Nodup
  pre : N.take P.length = P
  par : ∀ x ∈ P, sc.names.lookup x = some .local ∨ sc.names.lookup x = some .cell
  nofree : ∀ y ∈ sc.names, y.2 ≠ .free

theorem bindL_out {kindOf : Str → Option NameKind} {x : Str} : ∀ {binds : List (Str × Value)} {m : Str → Option Value}, (∀ v, (x, v) ∉ binds) → bindL kindOf binds m x = m x
  | [], _, _ => rfl
  | (n, v) :: r, m, h => by
    unfold bindL
    rw [bindL_out fun w hw => h w (List.mem_cons_of_mem _ hw)]
    split
    · have : x ≠ n := by rintro rfl; exact h v List.mem_cons_self
      simp [this]
    · rfl
theorem bindC_out {kindOf : Str → Option NameKind} {x : Str} : ∀ {binds : List (Str × Value)} {m : Str → Option Value}, (∀ v, (x, v) ∉ binds) → bindC kindOf binds m x = m x
  | [], _, _ => rfl
  | (n, v) :: r, m, h => by
    unfold bindC
    rw [bindC_out fun w hw => h w (List.mem_cons_of_mem _ hw)]
    split
    · rfl
    · have : x ≠ n := by rintro rfl; exact h v List.mem_cons_self
      simp [this]
theorem bindL_get {kindOf : Str → Option NameKind} {x : Str} {v : Value} : ∀ {P : List Str} {vs : List Value} {i : Nat} {m : Str → Option Value}, P.Nodup → P[i]? = some x → vs[i]? = some v → kindOf x = some .local →
    bindL kindOf (P.zip vs) m x = some v
  | [], _, _, _, _, h, _, _ => by simp at h
  | _ :: _, [], _, _, _, _, h, _ => by simp at h
  | p :: P, w :: vs, 0, m, nd, h1, h2, hk => by
    simp at h1 h2; subst h1; subst h2
    show bindL kindOf ((p, w) :: P.zip vs) m p = _
    unfold bindL
    rw [bindL_out fun v hv => (List.nodup_cons.mp nd).1 (List.of_mem_zip hv).1, if_pos hk]
    simp
  | p :: P, w :: vs, i + 1, m, nd, h1, h2, hk => by
    show bindL kindOf ((p, w) :: P.zip vs) m x = _
    unfold bindL
    exact bindL_get (i := i) (List.nodup_cons.mp nd).2 (by simpa using h1) (by simpa using h2) hk
theorem bindC_get {kindOf : Str → Option NameKind} {x : Str} {v : Value} : ∀ {P : List Str} {vs : List Value} {i : Nat} {m : Str → Option Value}, P.Nodup → P[i]? = some x → vs[i]? = some v → kindOf x ≠ some .local →
    bindC kindOf (P.zip vs) m x = some v
  | [], _, _, _, _, h, _, _ => by simp at h
  | _ :: _, [], _, _, _, _, h, _ => by simp at h
  | p :: P, w :: vs, 0, m, nd, h1, h2, hk => by
    simp at h1 h2; subst h1; subst h2
    show bindC kindOf ((p, w) :: P.zip vs) m p = _
    unfold bindC
    rw [bindC_out fun v hv => (List.nodup_cons.mp nd).1 (List.of_mem_zip hv).1, if_neg hk]
    simp
  | p :: P, w :: vs, i + 1, m, nd, h1, h2, hk => by
    show bindC kindOf ((p, w) :: P.zip vs) m x = _
    unfold bindC
    exact bindC_get (i := i) (List.nodup_cons.mp nd).2 (by simpa using h1) (by simpa using h2) hk

def start (N : List Str) (vs : List V) : St := vs.map some ++ List.replicate (N.length - vs.length) none

def cxOf (CX : CXT) (P : Program) (w : World) (K : PySem.W.Frag) (mg : Str → Option Value) (base : Heap) (N : List Str) (qual : Str) (scope : Scope) (f : Addr) (cd : Value) (A : Around) (outer : List Env) (s : Shared) (H : Hp) (E : XK) : Cx where
  prog := P
  w := w
  K := K
  mg := mg
  base := base
  A := A.deeper (envOfC qual scope s.heap.objs.size f cd)
  N := N
  s₀ := s
  H₀ := H
  env := envOfC qual scope s.heap.objs.size f cd
  outer := outer
  stack := envOfC qual scope s.heap.objs.size f cd :: outer
  ex := []
  calm := true
  fn := fun _ => true
  pn := []
  xe := fun e s' => wpAny (model P w) (A.deeper (envOfC qual scope s.heap.objs.size f cd)) (leaving (envOfC qual scope s.heap.objs.size f cd) e) (fun _ s'' => CX outer H s E e s'') (fun e' s'' => CX outer H s E e' s'') s'

theorem cell_has {sc : Scope} {n : Nat} {x : Str} (h : sc.names.lookup x = some .cell) : ∃ c, (cellsFrom n sc.names []).lookup x = some c := by
  have q := PySem.W.cellsFrom_some sc.names n [] (.inl h)
  exact Option.isSome_iff_exists.mp q

theorem inv_start {CX : CXT} {P : Program} {w : World} {K : PySem.W.Frag} {mg : Str → Option Value} {base : Heap} {N ps : List Str} {qual : Str} {scope : Scope} {f : Addr} {cd : Value} {A : Around} {outer : List Env} {s s1 : Shared} {H : Hp} {E : XK} {us : List Value} {vs : List V}
    (S : FnScope N ps scope) (hd : A.handled = none) (e0 : Env0 P w K mg base A outer s H) (hl : vs.length = ps.length) (r : Vals vs us)
    (x : InCallC s s.heap.objs.size (bindL (envOfC qual scope s.heap.objs.size f cd).kindOf (ps.zip us) fun _ => none) (cellsFrom (s.heap.objs.size + 1) scope.names []) (bindC (envOfC qual scope s.heap.objs.size f cd).kindOf (ps.zip us) fun _ => none) s1) :
    Inv (cxOf CX P w K mg base N qual scope f cd A outer s H E) [] (start N vs) H s1 := by
  have hpl : ps.length ≤ N.length := by have := congrArg List.length S.pre; rw [List.length_take] at this; omega
  obtain ⟨h1, tk, rfl, hk⟩ := x.done
  have noA : ∀ b : Addr, b ∉ (cxOf CX P w K mg base N qual scope f cd A outer s H E).ex := fun b z => absurd (show b ∈ ([] : List Addr) from z) (by simp)
  refine ⟨⟨e0.mod, S.kind, rfl, rfl, Nat.le_refl _, fun y z c h1 h2 => ?_, fun y hy => ?_, fun y c _ h => ?_, fun _ => hd, Around.frames_deeper e0.frames, .inr ⟨rfl, rfl⟩, fun b z => absurd z (noA b), e0.bs, e0.bsz, fun b _ _ => noA b, fun b z => absurd z (noA b), e0.funs, e0.frf⟩,
    rfl, e0.bare, Un.kept hk, ⟨_, x.toInCall.ns, fun i y v h1 h2 h3 => ?_⟩, fun y c h => ⟨_, x.cell y c h⟩, e0.hok.fresh (Nat.le_refl _), fun y c h => ?_, fun p hp => absurd (show p ∈ ([] : List (Addr × Obj)) from hp) (by simp), e0.hok.kept hk, ?_⟩
  · exact name_of_addr x.apart (PySem.mem_of_lookup h1) (PySem.mem_of_lookup h2)
  · have hy : scope.names.lookup y = some .cell ∨ scope.names.lookup y = some .free := hy
    rcases hy with hy | hy
    · exact cell_has hy
    · exact absurd rfl (S.nofree _ (PySem.mem_of_lookup hy))
  · exact Nat.le_of_lt (x.above y c (PySem.mem_of_lookup h))
  · have hi : i < vs.length := by
      unfold start at h2
      by_cases hi : i < vs.length
      · exact hi
      · rw [List.getElem?_append_right (by simpa using hi)] at h2
        rw [List.getElem?_replicate] at h2
        split at h2 <;> cases h2
    have ha : vs[i]? = some v := by
      unfold start at h2
      rw [List.getElem?_append_left (by simpa using hi), List.getElem?_map] at h2
      cases e : vs[i]? with
      | none => rw [e] at h2; cases h2
      | some a => rw [e] at h2; cases h2; rfl
    obtain ⟨u, hu, rv⟩ := r.get ha
    have hp : ps[i]? = some y := by
      rw [← S.pre, List.getElem?_take_of_lt (by omega)]; exact h1
    have ndP : ps.Nodup := by rw [← S.pre]; exact S.nd.sublist (List.take_sublist _ _)
    refine ⟨u, rv, ?_⟩
    rcases S.par y (List.mem_of_getElem? hp) with k | k
    · exact .inl ⟨k, bindL_get ndP hp hu k⟩
    · obtain ⟨c, e⟩ := cell_has (n := s.heap.objs.size + 1) k
      refine .inr ⟨.inl k, c, e, ?_⟩
      have q := x.cell y c e
      rw [bindC_get ndP hp hu (by show scope.names.lookup y ≠ _; rw [k]; decide)] at q
      exact q
  · exact e0.hok.fresh (Nat.le_of_lt (x.above y c (PySem.mem_of_lookup h)))
  · unfold start
    show _ = N.length
    rw [List.length_append, List.length_map, List.length_replicate]
    omega

theorem fn_of {CX : CXT} {P : Program} {w : World} {K : PySem.W.Frag} {mg : Str → Option Value} {base : Heap} {k : Nat} {f : Addr} {name qual : Str} {params : Arguments} {body : List Stmt} {scope : Scope} {dV kV doc pm cdv ct oc : Value} {an od : Option Addr}
    {osl : Array (Option Value)} {N ps : List Str} {sp : Sp} (lk : K.lookup f = some ⟨oc, od, .func (PySem.W.fnOf name qual params body scope dV kV doc pm an cdv ct), osl⟩) (hcd : PySem.W.codeIn K cdv qual = true) (S : FnScope N ps scope)
    (len : ∀ vs H Q E, sp vs H Q E → vs.length = ps.length)
    (hbody : ∀ (A : Around) (outer : List Env) (s : Shared) (H : Hp) (vs : List V) (Q : VK) (E : XK), Room k (A.deeper (envOfC qual scope s.heap.objs.size f cdv)) → sp vs H Q E →
      ∃ t, PSs (cxOf CX P w K mg base N qual scope f cdv A outer s H E) body t ∧ t { nx := fun _ H' => Q .non H', rt := Q } (start N vs) H) :
    FnOk P w K mg base CX (k + 1) f (PySem.W.fnOf name qual params body scope dV kV doc pm an cdv ct) ps sp := by
  refine ⟨len, fun A outer s H args us vs Q E hr e0 hb r hsp => ?_⟩
  have hl := len _ _ _ _ hsp
  have KX : K.In s.heap := e0.mod.kin.keeps fun b o e => (e0.bs b o e).1
  have lim : s.heap.NoLimit := e0.mod.nolimit.keeps fun b o e => (e0.bs b o e).1
  have hkind : ∀ y ∈ ps.zip us, scope.names.lookup y.1 = some .local ∨ (scope.names.lookup y.1 = some .cell ∧ ((cellsFrom (s.heap.objs.size + 1) scope.names []).lookup y.1).isSome = true) := fun ⟨n, v⟩ hy => by
    rcases S.par n (List.of_mem_zip hy).1 with q | q
    · exact .inl q
    · exact .inr ⟨q, PySem.W.cellsFrom_some _ _ _ (.inl q)⟩
  refine codeAny_call_function hr.depth (KX _ _ lk) rfl S.co S.gen rfl (PySem.W.codeRec_of KX hcd) (hb _ _ _ _ ?_)
  refine wpAny_newFunctionEnv_cells S.kind hkind fun env he s1 x => ?_
  subst he
  refine ⟨lim.keeps x.toInCall.keep, codeAny_func ?_⟩
  obtain ⟨t, ht, hq⟩ := hbody A outer s H vs Q E (hr.deeper _) hsp
  have I : Inv (cxOf CX P w K mg base N qual scope f cdv A outer s H E) [] (start N vs) H s1 := inv_start S hr.hd e0 hl r x
  refine wpAny_mono (ht [] s1 (start N vs) H _ I hq) (fun fl s' hs => ?_) fun e s' hs => hs
  have fin : ∀ {σ' : St} {H' : Hp} {v : V} {u : Value}, Inv (cxOf CX P w K mg base N qual scope f cdv A outer s H E) [] σ' H' s' → RelV v u → Q v H' → CE outer P w H s Q u s' :=
    fun {σ' H' v u} J rv q => ⟨v, H', J.os, J.bare, J.base, J.hok, rv, q⟩
  cases fl with
  | ret u =>
    obtain ⟨v, σ', H', J, rv, q⟩ := hs
    exact fin J rv q
  | next =>
    obtain ⟨σ', H', J, q⟩ := hs
    exact fin (v := V.non) (u := Value.none) J rfl q
  | brk =>
    obtain ⟨_, _, _, q⟩ := hs
    exact False.elim q
  | cont =>
    obtain ⟨_, _, _, q⟩ := hs
    exact False.elim q
end L2

namespace L2
open PySem PySem.Spec PyProof.Rows
section
variable {X : Cx} {x : Str} {p pos : Pos} {e : Expr} {es : List Expr} {t : TA} {id T : String} {r : List V → Hp → VK → Prop}

def tCB (r : List V → Hp → VK → Prop) (t : TA) : TE := fun σ H Q => t σ H fun vs H1 => r vs H1 Q
theorem pe_callB (hc : CallR X (.builtin id) r) (hg : Gl X x) (hm : X.mg x = none) (hv : bootBuiltins x = some (.builtin id)) (ha : PA X (e :: es) t) (hn : x ≠ "__name__" := by decide) (hdb : (x == ("__debug__" : Str)) = false := by decide)
    (he : starEach (e :: es) X.env = (false, eval e X.env) :: starEach es X.env := by rfl) (hpl : (backTo pos (starEach es X.env)).any (·.1) = false := by rfl) : PE X (.Call (.Name x p) (e :: es) [] pos) (tCB r t) := by
  intro pins s σ H Q I h
  refine wpAny_Call_Name_kw (ld_blt I hg hm hv ?_ hn hdb)
  exact PyProof.Rows.callWith_builtin1 (thn (ha pos pins s σ H _ I h) fun us s1 ⟨vs, H1, I1, r1, q1⟩ => hc pins s1 σ H1 vs us Q I1 r1 q1) he hpl
theorem pe_callTy (hc : CallR X (.type T) r) (hg : Gl X x) (hm : X.mg x = none) (hv : bootBuiltins x = some (.type T)) (ha : PA X (e :: es) t) (hn : x ≠ "__name__" := by decide) (hdb : (x == ("__debug__" : Str)) = false := by decide)
    (he : starEach (e :: es) X.env = (false, eval e X.env) :: starEach es X.env := by rfl) (hpl : (backTo pos (starEach es X.env)).any (·.1) = false := by rfl) : PE X (.Call (.Name x p) (e :: es) [] pos) (tCB r t) := by
  intro pins s σ H Q I h
  refine wpAny_Call_Name_kw (ld_blt I hg hm hv ?_ hn hdb)
  exact PyProof.Rows.callWith_type1 (thn (ha pos pins s σ H _ I h) fun us s1 ⟨vs, H1, I1, r1, q1⟩ => hc pins s1 σ H1 vs us Q I1 r1 q1) he hpl
end
end L2

namespace HT
open PySem PyProof.Rows



section
open PySem.SeqAt
open PySem.AutoSeq1 (wpAny_loadPart')
open PySem.MeetsSeq PySem.MeetsSeq2 PySem.MeetsSeq3

end

section
variable {prog : Program} {w : World} {A : Around} {E : Value → Shared → Prop} {s : Shared}



def sIx (n d : Nat) : Option Int → Nat
  | none => d
  | some v => if v < 0 then (v + (n : Int)).toNat else min v.toNat n
theorem sIx_none (n d : Nat) : sIx n d none = d := rfl
theorem sIx_nat (n d k : Nat) : sIx n d (some (k : Int)) = min k n := by
  show (if (k : Int) < 0 then ((k : Int) + (n : Int)).toNat else min (k : Int).toNat n) = min k n
  rw [if_neg (by omega), Int.toNat_natCast]

end
end HT

namespace L2
open PySem PySem.Spec PyProof.Rows

abbrev TO := St → Hp → (Option Int → Hp → Prop) → Prop
def PO (X : Cx) (e : Option Expr) (t : TO) : Prop :=
  ∀ (pins : List (Addr × Obj)) (s : Shared) (σ : St) (H : Hp) (Q : Option Int → Hp → Prop), Inv X pins σ H s → t σ H Q →
    wpAny (model X.prog X.w) X.A (evalPart e X.env) (fun u s' => ∃ o H', Inv X pins σ H' s' ∧ IsPart u o ∧ Q o H') X.xe s
def tNoPart : TO := fun _ H Q => Q none H
def tPart (t : TE) : TO := fun σ H Q => t σ H fun x H1 => ∃ i, x = .int i ∧ Q (some i) H1

theorem intsAre_of {ns : List Int} : ∀ {us : List Value}, Vals (ns.map V.int) us → IntsAre us ns := by
  induction ns with
  | nil => intro us r; rw [List.map_nil] at r; cases r; exact .nil
  | cons n ns ih =>
    intro us r
    rw [List.map_cons] at r
    cases r with
    | cons r1 r2 =>
      obtain ⟨t, e⟩ := r1
      subst e
      exact .cons n t (ih r2)

section
variable {X : Cx} {e : Expr} {te : TE} {lo hi : Option Expr} {tl th : TO} {pos p2 : Pos}

theorem po_none : PO X none tNoPart := by
  intro pins s σ H Q I h
  rw [evalPart_none]
  exact wpAny_pure ⟨none, H, I, .none, h⟩
theorem po_some (h : PE X e te) : PO X (some e) (tPart te) := by
  intro pins s σ H Q I hw
  rw [evalPart_some]
  refine thn (h pins s σ H _ I hw) fun u s1 ⟨x, H1, I1, r1, q1⟩ => ?_
  obtain ⟨i, rfl, q⟩ := q1
  obtain ⟨t, rfl⟩ := r1
  exact ⟨some i, H1, I1, .int i t, q⟩

def SlR (X : Cx) (r : V → Option Int → Option Int → Hp → VK → Prop) : Prop :=
  ∀ (pins : List (Addr × Obj)) (s : Shared) (σ : St) (H : Hp) (x : V) (v vl vu : Value) (lo hi : Option Int) (sl : Addr) (Q : VK), Inv X pins σ H s → RelV x v → s.heap.IsSliceOf sl vl vu .none → IsPart vl lo → IsPart vu hi → r x lo hi H Q →
    ∃ T id, typeLookup (.type T) "__getitem__" = pure (some (.builtin id)) ∧ s.TypeIs v T ∧ wpAny (model X.prog X.w) X.A (getItem v (.ref sl)) (EP X pins σ Q) X.xe s
def tSl (r : V → Option Int → Option Int → Hp → VK → Prop) (te : TE) (tl th : TO) : TE := fun σ H Q => te σ H fun x H1 => tl σ H1 fun l H2 => th σ H2 fun u H3 => r x l u H3 Q
theorem pe_slice {r : V → Option Int → Option Int → Hp → VK → Prop} (hr : SlR X r) (he : PE X e te) (hl : PO X lo tl) (hu : PO X hi th) : PE X (.Subscript e (.Slice lo hi none p2) pos) (tSl r te tl th) := by
  intro pins s σ H Q I h
  refine Subscript_ (thn (he pins s σ H _ I h) fun v s1 ⟨x, H1, I1, r1, q1⟩ => ?_)
  refine wpAny_Slice (thn (hl pins s1 σ H1 _ I1 q1) fun vl s2 ⟨l, H2, I2, pl, q2⟩ => thn (hu pins s2 σ H2 _ I2 q2) fun vu s3 ⟨u, H3, I3, pu, q3⟩ => ?_)
  rw [evalPart_none]
  refine wpAny_pure ?_
  have I4 : Inv X pins σ H3 { s3 with heap := s3.heap.push { cls := .type "slice", data := .fields #[vl, vu, .none] } } := I3.kept (t' := s3.toks) fun b ob q => Heap.get?_push_of_some _ q
  obtain ⟨T, id, hT, ht, hg⟩ := hr pins { s3 with heap := s3.heap.push { cls := .type "slice", data := .fields #[vl, vu, .none] } } σ H3 x v vl vu l u s3.heap.objs.size Q I4 r1 (Heap.IsSliceOf.new ..) pl pu q3
  show wpAny (model X.prog X.w) X.A (subscriptTail e (.Slice lo hi none p2) v (.ref s3.heap.objs.size)) (EP X pins σ Q) X.xe { s3 with heap := s3.heap.push { cls := .type "slice", data := .fields #[vl, vu, .none] } }
  exact tail_any (ops := [.ref s3.heap.objs.size, v]) ht hT hg (by with_unfolding_all rfl)

def cutV (xs : List V) (lo hi : Option Int) : List V := (xs.drop (HT.sIx xs.length 0 lo)).take (HT.sIx xs.length xs.length hi - HT.sIx xs.length 0 lo)
theorem cutV_length (xs : List V) (lo hi : Option Int) : (cutV xs lo hi).length ≤ xs.length := by
  unfold cutV
  rw [List.length_take, List.length_drop]
  omega

end
end L2

namespace L2
open PySem PySem.Spec PyProof.Rows

def ixN (n : Nat) (i : Int) : Option Nat := if 0 ≤ i then (if i < n then some i.toNat else none) else if -(n : Int) ≤ i then some (i + n).toNat else none
def atI {α : Type} (xs : List α) (i : Int) : Option α := (ixN xs.length i).bind fun j => xs[j]?
theorem ixN_seq {n : Nat} {i : Int} {j : Nat} (h : ixN n i = some j) : seqIndex? i n = some j ∧ j < n ∧ -(n : Int) ≤ i ∧ i < n := by
  unfold ixN at h
  by_cases h0 : 0 ≤ i
  · rw [if_pos h0] at h
    by_cases h1 : i < n
    · rw [if_pos h1] at h
      have e : i.toNat = j := Option.some.inj h
      exact ⟨by rw [seqIndex_of h0 h1, e], by omega, by omega, h1⟩
    · rw [if_neg h1] at h; cases h
  · rw [if_neg h0] at h
    by_cases h1 : -(n : Int) ≤ i
    · rw [if_pos h1] at h
      have e : (i + n).toNat = j := Option.some.inj h
      exact ⟨by rw [seqIndex_neg (by omega) h1, e], by omega, h1, by omega⟩
    · rw [if_neg h1] at h; cases h
theorem atI_get {α : Type} {xs : List α} {i : Int} {v : α} (h : atI xs i = some v) : ∃ j, seqIndex? i xs.length = some j ∧ xs[j]? = some v ∧ j < xs.length ∧ -(xs.length : Int) ≤ i ∧ i < xs.length := by
  unfold atI at h
  cases e : ixN xs.length i with
  | none => rw [e] at h; cases h
  | some j =>
    rw [e] at h
    obtain ⟨h1, h2, h3, h4⟩ := ixN_seq e
    exact ⟨j, h1, h, h2, h3, h4⟩
theorem atI_nat {α : Type} {xs : List α} {j : Nat} {v : α} (h : xs[j]? = some v) : atI xs (j : Int) = some v := by
  have hj : j < xs.length := (List.getElem?_eq_some_iff.mp h).1
  have e : ixN xs.length (j : Int) = some j := by
    unfold ixN
    rw [if_pos (by omega), if_pos (by omega)]; simp
  unfold atI; rw [e]; exact h

def PlainIx (b : Expr) : Prop := ∀ o i, subscripted b false o i = operate [o, i] (getItem o i)
def IxR (X : Cx) (r : R2) : Prop :=
  ∀ (value slice : Expr) (pins : List (Addr × Obj)) (s : Shared) (σ : St) (H : Hp) (x y : V) (v u : Value) (Q : VK), Inv X pins σ H s → RelV x v → RelV y u → r x y H Q →
    subscripted slice false v u = operate [v, u] (getItem v u) → wpAny (model X.prog X.w) X.A (subscriptTail value slice v u) (EP X pins σ Q) X.xe s
def MtR (X : Cx) (id : String) (r : V → List V → Hp → VK → Prop) : Prop :=
  ∀ (pins : List (Addr × Obj)) (s : Shared) (σ : St) (H : Hp) (x : V) (xs : List V) (v : Value) (us : List Value) (Q : VK), Inv X pins σ H s → RelV x v → Vals xs us → r x xs H Q →
    wpAny (model X.prog X.w) X.A (call (.builtin id) (v :: us)) (EP X pins σ Q) X.xe s
section
variable {X : Cx} {a b : Expr} {ta tb : TE} {pos : Pos}
theorem pe_ix {r : R2} (hr : IxR X r) (ha : PE X a ta) (hb : PE X b tb) (hs : PlainIx b) : PE X (.Subscript a b pos) (tOp r ta tb) := by
  intro pins s σ H Q I h
  exact Subscript_ (binT ha hb I h fun v u s2 x y H2 I2 rx ry q => hr a b pins s2 σ H2 x y v u Q I2 rx ry q (hs _ _))

def rIxL (K : PySem.W.Frag) : R2 := fun x y H Q => ∃ p xs i v, x = .ref p ∧ y = .int i ∧ SqL K H p xs ∧ atI xs i = some v ∧ Q v H
def rIxT (K : PySem.W.Frag) : R2 := fun x y H Q => ∃ p xs i v, x = .ref p ∧ y = .int i ∧ SqT K H p xs ∧ atI xs i = some v ∧ Q v H
theorem ix_list : IxR X (rIxL X.K) := by
  intro value slice pins s σ H x y v u Q I rx ry h hs
  obtain ⟨p, xs, i, z, rfl, rfl, hq, he, q⟩ := h
  cases rx
  obtain ⟨t, rfl⟩ := ry
  obtain ⟨its, r, pl, hz⟩ := I.list hq
  obtain ⟨j, h1, h2, h3, h4, h5⟩ := atI_get he
  obtain ⟨w, ew, rw'⟩ := r.get h2
  have hl := r.length
  have hn := line63
  have fin : EP X pins σ Q w s := ⟨z, H, I, rw', q⟩
  by_cases h0 : 0 ≤ i
  · have hj : i.toNat = j := by
      rw [seqIndex_of h0 h5] at h1
      exact Option.some.inj h1
    exact item_listR pl.isList h0 (by omega) (by rw [hj]; simpa using ew) fin hs
  · have hj : (i + (its.toArray.size : Int)).toNat = j := by
      rw [seqIndex_neg (by omega) h4] at h1
      rw [List.size_toArray, ← hl]
      exact Option.some.inj h1
    exact subscriptTail_builtinR (x := w) pl.isList.typeIs slot_list_getitem.lookup
      (wpAny_getItem_list_neg (Q := fun r s' => r = w ∧ EP X pins σ Q r s') pl.isList (by omega) (by rw [List.size_toArray] <;> omega) (by omega) (by rw [hj]; simpa using ew) ⟨rfl, fin⟩) hs
theorem ix_tup : IxR X (rIxT X.K) := by
  intro value slice pins s σ H x y v u Q I rx ry h hs
  obtain ⟨p, xs, i, z, rfl, rfl, hq, he, q⟩ := h
  cases rx
  obtain ⟨t, rfl⟩ := ry
  obtain ⟨its, r, pl, hz⟩ := I.tuple hq
  obtain ⟨j, h1, h2, h3, h4, h5⟩ := atI_get he
  obtain ⟨w, ew, rw'⟩ := r.get h2
  have hl := r.length
  have hn := line63
  have fin : EP X pins σ Q w s := ⟨z, H, I, rw', q⟩
  exact subscriptTail_builtinR (x := w) pl.typeIs slot_tuple_getitem.lookup
    (getItem_tuple (j := j) (Q := fun r s' => r = w ∧ EP X pins σ Q r s') pl (by omega) (by omega) (by rw [List.size_toArray, ← hl]; exact h1) (by simpa using ew) ⟨rfl, fin⟩) hs

theorem mapSeq_set (its : List Value) (n j : Nat) (u : Value) : Obj.mapSeq (·.setIfInBounds j u) { cls := .type "list", data := .seq its.toArray n } = { cls := .type "list", data := .seq (its.set j u).toArray n } := by
  simp [Obj.mapSeq]
theorem Inv.lst {pins : List (Addr × Obj)} {σ : St} {H : Hp} {s : Shared} {p : Addr} {xs : List V} (I : Inv X pins σ H s) (h : H p = some (.lst xs)) :
    ∃ (its : List Value) (n : Nat), Vals xs its ∧ s.heap.get? p = some { cls := .type "list", data := .seq its.toArray n } ∧ xs.length ≤ sizeLine := by
  obtain ⟨z, its, n, r, e⟩ := I.hok p _ h
  exact ⟨its, n, r, e, z⟩
theorem Inv.lstUpd {pins : List (Addr × Obj)} {σ : St} {H : Hp} {s : Shared} {p : Addr} {xs ys : List V} {its its' : List Value} {n n' : Nat} {f : Obj → Obj} (I : Inv X pins σ H s) (h : H p = some (.lst xs))
    (ho : s.heap.get? p = some { cls := .type "list", data := .seq its.toArray n }) (hf : f { cls := .type "list", data := .seq its.toArray n } = { cls := .type "list", data := .seq its'.toArray n' }) (r : Vals ys its') (hz : ys.length ≤ sizeLine) (t : Nat) :
    Inv X pins σ (upd H p (.lst ys)) { s with heap := s.heap.update p f, toks := t } := by
  have e : (s.heap.update p f).get? p = some { cls := .type "list", data := .seq its'.toArray n' } := by
    rw [Heap.get?_update_self f ho (by rw [hf] <;> rfl), hf]
  refine I.write (x := p) (e := p) (by rw [h]; trivial) (.inl rfl) (fun b u hb q => (Heap.get?_update_other _ _ (Ne.symm hb)).trans q) ⟨_, e⟩ ?_
  exact ⟨hz, its', n', r, e⟩
def rSetL : V → V → V → Hp → (Hp → Prop) → Prop := fun o i v H Q => ∃ p xs k j, o = .ref p ∧ i = .int k ∧ H p = some (.lst xs) ∧ ixN xs.length k = some j ∧ Q (upd H p (.lst (xs.set j v)))
theorem set_list : PSet X rSetL := by
  intro pins s σ H o i v ov iv u Q I ro ri rv h
  obtain ⟨p, xs, k, j, rfl, rfl, hp, hj, q⟩ := h
  cases ro
  obtain ⟨t, rfl⟩ := ri
  obtain ⟨its, n, r, ho, hz⟩ := I.lst hp
  obtain ⟨h1, h2, h3, h4⟩ := ixN_seq hj
  have hl := r.length
  have hn := line63
  have I' : Inv X pins σ (upd H p (.lst (xs.set j v))) { s with heap := s.heap.update p (Obj.mapSeq (·.setIfInBounds j u)) } :=
    I.lstUpd hp ho (mapSeq_set its n j u) (r.set rv j) (by rw [List.length_set]; exact hz) s.toks
  by_cases h0 : 0 ≤ k
  · have hk : k.toNat = j := by
      rw [seqIndex_of h0 h4] at h1
      exact Option.some.inj h1
    exact PySem.W.ki_setAt ho h0 (by omega) (by rw [List.size_toArray, ← hl]; exact h4) (by rw [hk]; exact ⟨_, I', q⟩)
  · have hk : (k + (its.toArray.size : Int)).toNat = j := by
      rw [seqIndex_neg (by omega) h3] at h1
      rw [List.size_toArray, ← hl]
      exact Option.some.inj h1
    exact PySem.W.ki_setBack ho (by omega) (by rw [List.size_toArray, ← hl]; exact h3) (by omega) (by rw [hk]; exact ⟨_, I', q⟩)

theorem slice_bounds (lo hi : Option Int) (n : Nat) : (sliceBounds lo hi none n).1 = ((HT.sIx n 0 lo : Nat) : Int) ∧ (sliceBounds lo hi none n).2.1 = ((HT.sIx n n hi : Nat) : Int) ∧ (sliceBounds lo hi none n).2.2 = 1 := by
  refine ⟨?_, ?_, rfl⟩
  · cases lo with
    | none => simp [sliceBounds, HT.sIx]
    | some i =>
      simp only [sliceBounds, HT.sIx, Option.getD_none, show (1 : Int) > 0 by decide, if_true]
      by_cases h : i < 0
      · simp only [h, if_true] <;> omega
      · simp only [h, if_false] <;> omega
  · cases hi with
    | none => simp [sliceBounds, HT.sIx]
    | some i =>
      simp only [sliceBounds, HT.sIx, Option.getD_none, show (1 : Int) > 0 by decide, if_true]
      by_cases h : i < 0
      · simp only [h, if_true] <;> omega
      · simp only [h, if_false] <;> omega
theorem slicePick_cut (its : List Value) (lo hi : Option Int) : slicePick its.toArray lo hi none = ((its.drop (HT.sIx its.length 0 lo)).take (HT.sIx its.length its.length hi - HT.sIx its.length 0 lo)).toArray := by
  obtain ⟨h1, h2, h3⟩ := slice_bounds lo hi its.toArray.size
  unfold slicePick
  rw [h1, h2, h3]
  simp only [sliceRange_one, pick_run, List.size_toArray] <;> rfl
def rSlL (K : PySem.W.Frag) : V → Option Int → Option Int → Hp → VK → Prop := fun x lo hi H Q => ∃ a xs, x = .ref a ∧ SqL K H a xs ∧ ∀ p, H p = none → Q (.ref p) (upd H p (.lst (cutV xs lo hi)))
theorem sl_list : SlR X (rSlL X.K) := by
  intro pins s σ H x v vl vu lo hi sl Q I rx hs pl pu h
  obtain ⟨a, xs, rfl, hx, q⟩ := h
  cases rx
  obtain ⟨its, r, ht, hz⟩ := I.list hx
  have hlen := r.length
  refine ⟨"list", _, slot_list_getitem.lookup, ht.isList.typeIs, ?_⟩
  refine wpAny_getItem_list_slice ht.isList hs pl pu .none (by simp) ?_ (by rw [List.size_toArray] <;> omega)
  rw [slicePick_cut, ← hlen]
  refine ⟨.ref s.heap.objs.size, _, I.laid (t' := s.toks) (o := .lst (cutV xs lo hi)) (fun b ob q => Heap.get?_push_of_some _ q) (Nat.le_refl _) ?_, rfl, q _ (I.hok.fresh (Nat.le_refl _))⟩
  exact ⟨Nat.le_trans (cutV_length xs lo hi) hz, _, 0, (r.drop (HT.sIx xs.length 0 lo)).take (HT.sIx xs.length xs.length hi - HT.sIx xs.length 0 lo), Heap.get?_push_size _ rfl⟩

def flatV : V → Bool
  | .non => true
  | .bl _ => true
  | .int _ => true
  | .str _ => true
  | _ => false
def eqV : V → V → Bool
  | .non, .non => true
  | .bl a, .bl b => a == b
  | .bl a, .int b => (if a then 1 else 0) == b
  | .int a, .bl b => a == (if b then 1 else 0)
  | .int a, .int b => a == b
  | .str a, .str b => a == b
  | _, _ => false
theorem eqAt_V {A : Around} {s : Shared} {y x : V} {u v : Value} (ry : RelV y u) (rx : RelV x v) (fy : flatV y = true) (fx : flatV x = true) : SeqAt.EqAt A s u v (eqV y x) := by
  cases y with
  | non =>
    cases ry
    cases x with
    | non => cases rx; exact SeqAt.EqAt.same _
    | bl b => cases rx; exact SeqAt.EqAt.none_bool b
    | int b => obtain ⟨t, rfl⟩ := rx; exact SeqAt.EqAt.none_int b t
    | str b => obtain ⟨t, rfl⟩ := rx; exact SeqAt.EqAt.none_str b t
    | _ => exact absurd (show false = true from fx) Bool.false_ne_true
  | bl a =>
    cases ry
    cases x with
    | non => cases rx; exact SeqAt.EqAt.bool_none a
    | bl b => cases rx; exact SeqAt.EqAt.bool_bool a b
    | int b => obtain ⟨t, rfl⟩ := rx; exact SeqAt.EqAt.bool_int a b t
    | str b => obtain ⟨t, rfl⟩ := rx; exact SeqAt.EqAt.bool_str a b t
    | _ => exact absurd (show false = true from fx) Bool.false_ne_true
  | int a =>
    obtain ⟨t', rfl⟩ := ry
    cases x with
    | non => cases rx; exact SeqAt.EqAt.int_none a t'
    | bl b => cases rx; exact SeqAt.EqAt.int_bool a t' b
    | int b => obtain ⟨t, rfl⟩ := rx; exact SeqAt.EqAt.int_int a t' b t
    | str b => obtain ⟨t, rfl⟩ := rx; exact SeqAt.EqAt.int_str a t' b t
    | _ => exact absurd (show false = true from fx) Bool.false_ne_true
  | str a =>
    obtain ⟨t', rfl⟩ := ry
    cases x with
    | non => cases rx; exact SeqAt.EqAt.str_none a t'
    | bl b => cases rx; exact SeqAt.EqAt.str_bool a t' b
    | int b => obtain ⟨t, rfl⟩ := rx; exact SeqAt.EqAt.str_int a t' b t
    | str b => obtain ⟨t, rfl⟩ := rx; exact SeqAt.EqAt.str_str a t' b t
    | _ => exact absurd (show false = true from fx) Bool.false_ne_true
  | _ => exact absurd (show false = true from fy) Bool.false_ne_true
def eqU (x : V) (u : Value) : Bool := match u with
  | .none => eqV .non x
  | .bool b => eqV (.bl b) x
  | .int i _ => eqV (.int i) x
  | .str z _ => eqV (.str z) x
  | _ => false
theorem eqU_of {x y : V} {u : Value} (r : RelV y u) (f : flatV y = true) : eqU x u = eqV y x := by
  cases y with
  | non => cases r; rfl
  | bl b => cases r; rfl
  | int i => obtain ⟨t, rfl⟩ := r; rfl
  | str z => obtain ⟨t, rfl⟩ := r; rfl
  | _ => exact absurd (show false = true from f) Bool.false_ne_true
theorem any_eqU {x : V} : ∀ {xs : List V} {us : List Value}, Vals xs us → xs.all flatV = true → us.any (eqU x) = xs.any fun y => eqV y x
  | _, _, .nil, _ => rfl
  | y :: xs, u :: us, .cons r t, f => by
    rw [List.all_cons, Bool.and_eq_true] at f
    rw [List.any_cons, List.any_cons, eqU_of r f.1, any_eqU t f.2]
theorem mem_eqAt {A : Around} {s : Shared} {x : V} {v : Value} (rx : RelV x v) (fx : flatV x = true) : ∀ {xs : List V} {us : List Value}, Vals xs us → xs.all flatV = true → ∀ u ∈ us, SeqAt.EqAt A s u v (eqU x u)
  | _, _, .nil, _ => fun u hu => by cases hu
  | y :: xs, u :: us, .cons r t, f => fun u' hu => by
    rw [List.all_cons, Bool.and_eq_true] at f
    rcases List.mem_cons.mp hu with rfl | hu
    · rw [eqU_of r f.1]; exact eqAt_V r rx f.1 fx
    · exact mem_eqAt rx fx t f.2 u' hu
def inV (x : V) (xs : List V) : Bool := xs.any fun y => eqV y x
def rIn (K : PySem.W.Frag) (neg : Bool) : R2 := fun x y H Q => ∃ p xs, y = .ref p ∧ (SqL K H p xs ∨ SqT K H p xs) ∧ flatV x = true ∧ xs.all flatV = true ∧ Q (.bl (if neg then !inV x xs else inV x xs)) H
theorem op_in_seq : OpR X (compareOp .In) (rIn X.K false) := by
  intro pins s σ H x y v u Q I rx ry h
  obtain ⟨p, xs, rfl, hq, fx, fs, q⟩ := h
  cases ry
  rcases hq with hq | hq
  · obtain ⟨its, r, pl, hz⟩ := I.list hq
    refine SeqAt.in_listAt (eqU x) pl.isList (fun w hw => mem_eqAt rx fx r fs w (by simpa using hw)) ⟨.bl _, H, I, rfl, ?_⟩
    rw [show its.toArray.any (eqU x) = its.any (eqU x) by simp, any_eqU r fs]
    exact q
  · obtain ⟨its, r, pl, hz⟩ := I.tuple hq
    refine SeqAt.in_tupleAt (eqU x) pl (fun w hw => mem_eqAt rx fx r fs w (by simpa using hw)) ⟨.bl _, H, I, rfl, ?_⟩
    rw [show its.toArray.any (eqU x) = its.any (eqU x) by simp, any_eqU r fs]
    exact q

theorem call_len_seq : CallR X (.builtin "len") (fun xs H Q => ∃ p ys, xs = [.ref p] ∧ (SqL X.K H p ys ∨ SqT X.K H p ys) ∧ Q (.int ys.length) H) := by
  intro pins s σ H xs us Q I r h
  obtain ⟨p, ys, rfl, hq, q⟩ := h
  obtain ⟨u, rfl, rx⟩ := vals1 r
  cases rx
  have hn := line63
  rcases hq with hq | hq
  · obtain ⟨its, r', pl, hz⟩ := I.list hq
    have hlen := r'.length
    exact Calls.call_len_list pl.isList (by simp only [List.size_toArray] <;> omega) ⟨.int ys.length, H, I.tok _, ⟨s.toks + 1, by rw [List.size_toArray, hlen]⟩, q⟩
  · obtain ⟨its, r', pl, hz⟩ := I.tuple hq
    have hlen := r'.length
    exact len_tuple pl (by simp only [List.size_toArray] <;> omega) ⟨.int ys.length, H, I.tok _, ⟨s.toks + 1, by rw [List.size_toArray, hlen]⟩, q⟩
theorem call_tuple_of : CallR X (.type "tuple") (fun xs H Q => ∃ p ys, xs = [.ref p] ∧ ((SqL X.K H p ys ∧ ∀ l, H l = none → Q (.ref l) (upd H l (.tup ys))) ∨ (SqT X.K H p ys ∧ Q (.ref p) H))) := by
  intro pins s σ H xs us Q I r h
  obtain ⟨p, ys, rfl, h⟩ := h
  obtain ⟨u, rfl, rx⟩ := vals1 r
  cases rx
  rcases h with ⟨hq, q⟩ | ⟨hq, q⟩
  · obtain ⟨its, r', pl, hz⟩ := I.list hq
    have hlen := r'.length
    refine call_tuple_list pl.isList (fun h' kp => ?_) (by simp only [List.size_toArray] <;> omega)
    have I1 : Inv X pins σ H { s with heap := h' } := I.kept (t' := s.toks) kp
    have I2 : Inv X pins σ (upd H h'.objs.size (.tup ys)) { s with heap := h'.push { cls := .type "tuple", data := .seq its.toArray } } :=
      I1.laid (t' := s.toks) (fun b o e => Heap.get?_push_of_some _ e) (Nat.le_refl _) (show ObjOk X.prog X.w _ _ _ (.tup ys) from ⟨hz, its, r', IsTup.new _ _⟩)
    exact ⟨.ref h'.objs.size, _, I2, rfl, q _ (I1.hok.fresh (Nat.le_refl _))⟩
  · obtain ⟨its, r', pl, hz⟩ := I.tuple hq
    exact call_tuple_same pl ⟨.ref p, H, I, rfl, q⟩

def tyV (K : PySem.W.Frag) (T : String) (x : V) (H : Hp) : Prop := match x with
  | .str _ => T = "str"
  | .int _ => T = "int"
  | .ref p => (T = "list" ∧ ∃ xs, SqL K H p xs) ∨ (T = "tuple" ∧ ∃ o, K.lookup p = some o ∧ o.cls = .type "tuple" ∧ o.dict = none) ∨
      (T = "dict" ∧ ((∃ kvs, H p = some (.dK kvs)) ∨ ∃ kvs, H p = some (.dT kvs))) ∨ (T = "set" ∧ ∃ S n, H p = some (.set S n))
  | _ => False
theorem tyV_is {pins : List (Addr × Obj)} {σ : St} {H : Hp} {s : Shared} {T : String} {x : V} {v : Value} (I : Inv X pins σ H s) (r : RelV x v) (ty : tyV X.K T x H) :
    s.TypeIs v T ∧ ∀ a, v = .ref a → ∃ ob, s.heap.get? a = some ob ∧ ob.dict = none := by
  cases x with
  | str z =>
    obtain ⟨t, rfl⟩ := r
    cases (show T = "str" from ty)
    exact ⟨typeIs_str s z t, fun _ e => nomatch e⟩
  | int i =>
    obtain ⟨t, rfl⟩ := r
    cases (show T = "int" from ty)
    exact ⟨typeIs_int s i t, fun _ e => nomatch e⟩
  | ref p =>
    cases r
    rcases ty with ⟨rfl, xs, hq⟩ | ⟨rfl, o, hk, hc, hd⟩ | ⟨rfl, hk⟩ | ⟨rfl, S, n, hk⟩
    · obtain ⟨its, _, pl, _⟩ := I.list hq
      refine ⟨pl.isList.typeIs, fun a e => ?_⟩
      cases e
      obtain ⟨o, n, e, c, hd, _⟩ := pl
      exact ⟨o, e, hd⟩
    · refine ⟨⟨o, I.kIn p o hk, hc⟩, fun a e => ?_⟩
      cases e
      exact ⟨o, I.kIn _ o hk, hd⟩
    · have z : ∃ o, s.heap.get? p = some o ∧ o.ExactDict := by
        rcases hk with ⟨kvs, hk⟩ | ⟨kvs, hk⟩
        · obtain ⟨_, _, _, _, o, _, _, e, ex, _⟩ := I.hok p _ hk
          exact ⟨o, e, ex⟩
        · obtain ⟨_, _, _, _, o, _, _, e, ex, _⟩ := I.hok p _ hk
          exact ⟨o, e, ex⟩
      obtain ⟨o, e, ex⟩ := z
      refine ⟨⟨o, e, ex.1⟩, fun a e2 => ?_⟩
      cases e2
      exact ⟨o, e, ex.2.1⟩
    · obtain ⟨o, _, _, _, e, ex, _⟩ := I.hok p _ hk
      refine ⟨⟨o, e, ex.1⟩, fun a e2 => ?_⟩
      cases e2
      exact ⟨o, e, ex.2.1⟩
  | _ => exact False.elim ty
def tBM (K : PySem.W.Frag) (T : String) (r : V → List V → Hp → VK → Prop) (to : TE) (t : TA) : TE := fun σ H Q => to σ H fun x H1 => tyV K T x H1 ∧ t σ H1 fun xs H2 => r x xs H2 Q
variable {o e : Expr} {es : List Expr} {to : TE} {t : TA} {name : Str} {apos cpos : Pos} {T id : String} {r : V → List V → Hp → VK → Prop}
theorem pe_bm (pa : PlainAttrs T) (slot : Slot T name id) (hty : typeOf (.builtin id) = pure (.type "method_descriptor")) (hm : MtR X id r) (ho : PE X o to) (ha : PA X (e :: es) t)
    (hbase : attributeBase o name X.env (eval o X.env) = eval o X.env := by rfl)
    (hfew : ((backTo cpos (starEach (e :: es) X.env)).all (fun x => !x.1) && (backToKw cpos (keywordEach [] X.env)).all (fun x => x.1.isSome)
      && decide ((e :: es).length + ([] : List Keyword).length + (if ([] : List Keyword).isEmpty then 0 else 1) < 30)) = true := by rfl)
    (hline : (apos.endLine == cpos.line) = true := by rfl) (hs : starEach (e :: es) X.env = (false, eval e X.env) :: starEach es X.env := by rfl) (hplain : (backTo cpos (starEach es X.env)).any (·.1) = false := by rfl) :
    PE X (.Call (.Attribute o name apos) (e :: es) [] cpos) (tBM X.K T r to t) := by
  intro pins s σ H Q I h
  refine wpAny_Call_method_late hbase hfew hline rfl (thn (ho pins s σ H _ I h) fun v s1 ⟨x, H1, I1, r1, ty, q1⟩ => ?_)
  obtain ⟨h1, h2⟩ := tyV_is I1 r1 ty
  refine ⟨T, id, pa, slot, hty, h1, h2, ?_⟩
  have hA := ha cpos pins s1 σ H1 _ I1 q1
  rw [hs] at hA ⊢
  refine Calls.callWith_builtin (by show (false || (backTo cpos (starEach es X.env)).any (·.1)) = false; rw [hplain] <;> rfl) (Calls.evalArgs_plain ?_)
  exact thn hA fun us s2 ⟨vs, H2, I2, r2, q2⟩ => hm pins s2 σ H2 x vs v us Q I2 r1 r2 q2
end
end L2

namespace L2
open PySem PySem.Spec PyProof.Rows

def MtM (X : Cx) (id : String) (r : V → List V → Hp → VK → Prop) : Prop :=
  ∀ (pins : List (Addr × Obj)) (s : Shared) (σ : St) (H : Hp) (x : V) (xs : List V) (v : Value) (us : List Value) (Q : VK), Inv X pins σ H s → RelV x v → Vals xs us → r x xs H Q →
    wpAny (model X.prog X.w) X.A (call (.builtin id) (v :: us)) (EP X pins σ Q) X.xe s

theorem Vals.one : ∀ {x : V} {us : List Value}, Vals [x] us → ∃ u, us = [u] ∧ RelV x u
  | _, _, .cons r .nil => ⟨_, rfl, r⟩
theorem Vals.two : ∀ {x y : V} {us : List Value}, Vals [x, y] us → ∃ u v, us = [u, v] ∧ RelV x u ∧ RelV y v
  | _, _, _, .cons r (.cons q .nil) => ⟨_, _, rfl, r, q⟩
theorem Vals.zero : ∀ {us : List Value}, Vals [] us → us = []
  | _, .nil => rfl
theorem Vals.reverse {xs : List V} {us : List Value} (h : Vals xs us) : Vals xs.reverse us.reverse := by
  induction h with
  | nil => exact .nil
  | cons r t ih => rw [List.reverse_cons, List.reverse_cons]; exact Vals.append ih (.cons r .nil)
theorem Vals.rep {xs : List V} {us : List Value} (h : Vals xs us) : ∀ k : Nat, Vals (List.replicate k xs).flatten (List.replicate k us).flatten
  | 0 => .nil
  | k + 1 => by
    rw [List.replicate_succ, List.replicate_succ, List.flatten_cons, List.flatten_cons]
    exact Vals.append h (Vals.rep h k)
theorem foldl_rep (its : List Value) : ∀ (k : Nat) (acc : List Value),
    List.foldl (fun x1 x2 => x1 ++ x2) acc.toArray (List.replicate k its.toArray) = (acc ++ (List.replicate k its).flatten).toArray
  | 0, acc => by simp
  | k + 1, acc => by
    have e : acc.toArray ++ its.toArray = (acc ++ its).toArray := by simp
    have e2 : (acc ++ its) ++ (List.replicate k its).flatten = acc ++ (List.replicate (k + 1) its).flatten := by
      rw [List.replicate_succ, List.flatten_cons, List.append_assoc]
    rw [← e2, ← foldl_rep its k (acc ++ its), ← e, List.replicate_succ, List.foldl_cons]

section
variable {X : Cx} {pins : List (Addr × Obj)} {σ : St} {H : Hp} {s : Shared} {l b : Addr} {xs ys zs : List V}

theorem Inv.lset {its its' : List Value} {n : Nat} {f : Array Value → Array Value} {t' : Nat} (I : Inv X pins σ H s) (hH : H l = some (.lst xs))
    (e : s.heap.get? l = some { cls := .type "list", data := .seq its.toArray n }) (hf : f its.toArray = its'.toArray) (hv : Vals ys its') (hz : ys.length ≤ sizeLine) :
    Inv X pins σ (upd H l (.lst ys)) { s with heap := s.heap.update l (Obj.mapSeq f), toks := t' } := by
  have q := PySem.IsL.update e f
  rw [hf] at q
  refine I.write (x := l) (e := l) (by rw [hH]; exact trivial) (.inl rfl) (fun b' u hb hu => (Heap.get?_update_other s.heap (Obj.mapSeq f) (Ne.symm hb)).trans hu) ⟨_, q⟩ ?_
  exact ⟨hz, its', _, hv, q⟩
theorem Inv.lnew {its : List Value} {t' : Nat} (I : Inv X pins σ H s) (hv : Vals ys its) (hz : ys.length ≤ sizeLine) :
    Inv X pins σ (upd H s.heap.objs.size (.lst ys)) { s with heap := s.heap.push { cls := .type "list", data := .seq its.toArray }, toks := t' } :=
  I.laid (fun _ _ q => Heap.get?_push_of_some _ q) (Nat.le_refl _) ⟨hz, its, 0, hv, Heap.get?_push_size _ rfl⟩
theorem Inv.fresh (I : Inv X pins σ H s) : H s.heap.objs.size = none := I.hok.fresh (Nat.le_refl _)
theorem Inv.lstM (I : Inv X pins σ H s) (hH : H l = some (.lst xs)) : xs.length ≤ sizeLine ∧ ∃ (its : List Value) (n : Nat), Vals xs its ∧ xs.length = its.length ∧ s.heap.get? l = some { cls := .type "list", data := .seq its.toArray n } := by
  obtain ⟨z, its, n, r, e⟩ := I.hok l _ hH
  exact ⟨z, its, n, r, r.length, e⟩

theorem notLongL {n : Nat} (h : n ≤ sizeLine) : Builtin.List.listTooLong n = false := by
  unfold Builtin.List.listTooLong
  exact decide_eq_false (by omega)
end

section
variable {X : Cx}

def rAppend : V → List V → Hp → VK → Prop := fun x vs H Q => ∃ l xs y, x = .ref l ∧ vs = [y] ∧ H l = some (.lst xs) ∧ xs.length < sizeLine ∧ Q .non (upd H l (.lst (xs ++ [y])))
theorem mt_append : MtM X "list.append" rAppend := by
  intro pins s σ H x vs v us Q I rx rv h
  obtain ⟨l, xs, y, rfl, rfl, hH, hz, q⟩ := h
  cases rx
  obtain ⟨u, rfl, ru⟩ := rv.one
  obtain ⟨z, its, n, r, hl, e⟩ := I.lstM hH
  refine call_meets F.slot_list_append ⟨_, e, rfl⟩ F.entry_list_append (F.args_list_append_2 _ _) (PySem.list_append l its.toArray n u (by rw [List.size_toArray]; omega)) ⟨e, ?_⟩
  refine ⟨.non, _, I.lset (its' := its ++ [u]) hH e (by simp) (r.append (.cons ru .nil)) ?_, rfl, q⟩
  rw [List.length_append, List.length_singleton]
  omega






def rCat : R2 := fun x y H Q => ∃ l b xs zs, x = .ref l ∧ y = .ref b ∧ H l = some (.lst xs) ∧ H b = some (.lst zs) ∧ xs.length + zs.length ≤ sizeLine ∧ ∀ p, H p = none → Q (.ref p) (upd H p (.lst (xs ++ zs)))
theorem op_cat : OpR X (binaryOp .Add) rCat := by
  intro pins s σ H x y v u Q I rx ry h
  obtain ⟨l, b, xs, zs, rfl, rfl, hH, hB, hz, q⟩ := h
  cases rx
  cases ry
  obtain ⟨z, its, n, r, hl, e⟩ := I.lstM hH
  obtain ⟨z2, its2, n2, r2, hl2, e2⟩ := I.lstM hB
  refine PySem.P.add_list e e2 ?_ (by rw [List.size_toArray, List.size_toArray]; omega)
  have ea : its.toArray ++ its2.toArray = (its ++ its2).toArray := by simp
  rw [ea]
  exact ⟨.ref _, _, I.lnew (t' := s.toks) (r.append r2) (by rw [List.length_append]; omega), rfl, q _ I.fresh⟩
def rRep : R2 := fun x y H Q => ∃ l k xs, x = .ref l ∧ y = .int k ∧ H l = some (.lst xs) ∧ -(2 ^ 63) ≤ k ∧ k < 2 ^ 63 ∧ xs.length * k.toNat ≤ sizeLine ∧
  ∀ p, H p = none → Q (.ref p) (upd H p (.lst (List.replicate k.toNat xs).flatten))
theorem len_rep {α : Type} (xs : List α) (k : Nat) : (List.replicate k xs).flatten.length = k * xs.length := by
  induction k with
  | zero => simp
  | succ k ih => rw [List.replicate_succ, List.flatten_cons, List.length_append, ih, Nat.succ_mul, Nat.add_comm]
theorem op_rep : OpR X (binaryOp .Mult) rRep := by
  intro pins s σ H x y v u Q I rx ry h
  obtain ⟨l, k, xs, rfl, rfl, hH, h1, h2, hz, q⟩ := h
  cases rx
  obtain ⟨t, rfl⟩ := ry
  obtain ⟨z, its, n, r, hl, e⟩ := I.lstM hH
  have hlen : its.toArray.size * k.toNat ≤ sizeLine := by rw [List.size_toArray, ← hl]; exact hz
  have hcap : ¬ its.toArray.size * k.toNat > (2 ^ 63 - 1) / 8 := by
    have : (sizeLine : Nat) ≤ (2 ^ 63 - 1) / 8 := by decide
    omega
  have hfit : ¬ (!Builtin.List.listFitsIndex k) = true := by
    rw [fitsIndex_both h1 h2]
    exact Bool.false_ne_true
  have hlong : ¬ Builtin.List.listTooLong (its.toArray.size * k.toNat) = true := by
    rw [notLongL hlen]
    exact Bool.false_ne_true
  have hnew : List.foldl (fun x1 x2 => x1 ++ x2) #[] (List.replicate (if its.toArray.isEmpty = true then 0 else k.toNat) its.toArray) = (List.replicate k.toNat its).flatten.toArray := by
    have f0 : ∀ m : Nat, List.foldl (fun x1 x2 => x1 ++ x2) #[] (List.replicate m its.toArray) = (List.replicate m its).flatten.toArray := fun m => by
      have := foldl_rep its m []
      rw [List.nil_append] at this
      exact this
    rw [f0]
    cases its with
    | nil => simp
    | cons a r' => rw [if_neg (by simp)]
  refine wpAny_binaryOp_repeat_ref (T := "list") (U := "int") (by decide) ⟨_, e, rfl⟩ (fun s' => typeIs_int s' k t) noFill_list_mul F.fills_int_mul F.slot_int_rmul repeat_list F.slot_int_index.lookup
    (call_meets F.slot_int_rmul (typeIs_int s k t) F.entry_int_rmul (F.args_int_rmul_2 _ _) (int___rmul___int_list k t l its.toArray n)
      ⟨e, rfl, ⟨_, e, rfl⟩, call_meets F.slot_list_mul ⟨_, e, rfl⟩ F.entry_list_mul (F.args_list_mul_2 _ _) (AutoListH.list___mul___list_int_3 l its.toArray n k t hfit hcap hlong) ⟨e, ?_⟩⟩)
  rw [hnew]
  exact ⟨.ref _, _, I.lnew (t' := s.toks) (r.rep k.toNat) (by rw [len_rep, Nat.mul_comm]; exact hz), rfl, q _ I.fresh⟩

end

section
variable {prog : Program} {w : World} {A : Around} {E : Value → Shared → Prop} {s : Shared}
end

section
variable {X : Cx}
end
end L2

namespace Att
open PySem PySem.W PySem.Calls PyProof.Rows

theorem ints_of_wellAll {P : Params} {h : Heap} : ∀ (ns : List Int) (vs : List Value), WellAll P h vs (ns.map WData.int) → IntsAre vs ns := by
  intro ns
  induction ns with
  | nil =>
    intro vs w
    rw [List.map_nil] at w
    cases w
    exact .nil
  | cons n ns ih =>
    intro vs w
    rw [List.map_cons] at w
    cases w with
    | cons a b =>
      cases a
      exact .cons _ _ (ih _ b)

theorem script_of {l : OpenLaw} {n : Nat} (hn : l.most = some n) {P : Params} {h : Heap} {args : List WData} {vals : List Value}
    (hpre : l.row.toRowW.claim.pre args = true) (hwl : WellAll P h vals args) :
    ∃ a vs ns, vals = [Value.ref a] ∧ args = [WData.list (ns.map WData.int)] ∧ h.get? a = some { cls := .type "list", data := .seq vs.toArray } ∧ IntsAre vs ns ∧ ns.length ≤ n := by
  have hsh : WShape.hasAll [] args [.list .int] = true := (pre_splitW hpre).1
  have hc : l.pre.holds [] { args := args } = true := (pre_splitW hpre).2
  obtain ⟨d, r, rfl, h1, h2⟩ := hasAllW_cons hsh
  obtain rfl := hasAllW_nil h2
  obtain ⟨xs, rfl, h3⟩ := hasW_list h1
  obtain ⟨ns, rfl⟩ := items_int h3
  have hlen : ns.length ≤ n := by
    unfold OpenLaw.pre at hc
    have h4 : (WTm.not (.lt (.lit (.int (n : Int))) (.len (.arg 0)))).holds [] { args := [.list (ns.map .int)] } = true := by
      have h4 := (holds_andW hc).1
      rw [hn] at h4
      exact h4
    have h5 := condW_of h4 (w_not (w_lt w_lit (w_len_list (w_arg rfl))))
    rw [List.length_map] at h5
    refine Nat.le_of_not_lt fun q => ?_
    have q' : (n : Int) < ((ns.length : Nat) : Int) := by omega
    first
      | (rw [decide_eq_true q'] at h5; exact absurd h5 (by decide))
      | (simp at h5; omega)
  cases hwl with
  | cons w1 w2 =>
    cases w2
    cases w1 with
    | list ho hall => exact ⟨_, _, ns, rfl, rfl, ho, ints_of_wellAll ns _ hall, hlen⟩

theorem post_true (l : OpenLaw) (args : List WData) : l.row.toRowW.claim.post args (.bool true) args = true :=
  postW_of (r := l.row.toRowW) (X := (true == true))
    (show WShape.has [] (.bool true) .bool = true by first | rfl | decide | simp [WShape.has, WShape.arms, WShape.armsAll])
    (show (WTm.eq .res (.lit (.bool true))).value [] { args := args, res := some (.bool true), after := args } = some (.bool (true == true)) from w_eq_bool (w_res rfl) w_lit) rfl


theorem attach_call {l : OpenLaw} {n : Nat} {q : Program} {loose : List Str} {XP : (Str → Option Value) → Heap → Prop} {YP : World → Heap → Prop} {d : DefRec}
    (hn : l.most = some n) (hdf : d.params.defaults = [])
    (call : ∀ (w : World) (s₀ s₁ : Shared) (mg mb : Str → Option Value) (fa : Addr) (o : Obj) (pm cd doc : Value) (a : Addr) (vs : List Value) (ns : List Int),
      Ground q loose [] XP w s₀ mg mb s₁.heap → YP w s₁.heap →
      s₁.heap.get? fa = some o → o.data = .func (docDef d.name d.params d.body d.scope pm cd doc) → s₁.heap.CodeRec cd d.name → mg d.name = some (.ref fa) →
      s₁.heap.get? a = some { cls := .type "list", data := .seq vs.toArray } → IntsAre vs ns → ns.length ≤ n → s₁.gens = #[] →
      codeAny (model l.prog w) callerA (.call (.ref fa) ⟨[.ref a], []⟩) (fun r s' => r = .ok (.ret (.bool true)) ∧ OldK s₁.heap s'.heap ∧ s'.os = s₁.os ∧ AllBare s'.gens) s₁) :
    WalkO q loose XP YP l.row.toRowW d [] (fun f vs => PySem.call f vs) := by
  intro w s₀ s₁ mg mb G Y fa o pm cd doc dV kV ho hd hcd hD hmg hg args vals as hpre hlay hrd hwl hlo
  obtain rfl : dV = .none := Dflts.none hD hdf
  obtain rfl : kV = .none := Dflts.noKw hD
  obtain ⟨a, vs, ns, rfl, rfl, hobj, hints, hlen⟩ := script_of hn hpre hwl
  refine enter_call (codeAny_mono (call w s₀ s₁ mg mb fa o pm cd doc a vs ns G Y ho (fd_plain hd) hcd hmg hobj hints hlen hg) fun r s' hq => ?_)
  obtain ⟨rfl, h2, h3, h4⟩ := hq
  exact ⟨.inl ⟨.bool true, .bool true, [], rfl, fun _ => rfl, .bool true, post_true l _, fun _ => ⟨List.Pairwise.nil, fun _ hm => (nomatch hm)⟩⟩, h2, h3, h4⟩


section
variable {prog : Program} {w : World} {A : Around} {E : Value → Shared → Prop} {s : Shared} {K : Frag}






end
end Att

namespace L2
open PySem PySem.Spec PyProof.Rows

theorem vals_ints : ∀ {vs : List Value} {ns : List Int}, IntsAre vs ns → Vals (ns.map V.int) vs
  | _, _, .nil => .nil
  | _, _, .cons n t h => .cons ⟨t, rfl⟩ (vals_ints h)

def Only (H : Hp) : Prop := ∀ b, H b = none ∨ ∃ o xs, H b = some (.frz o (.lst xs))

theorem law_call {P : Program} {w : World} {K : PySem.W.Frag} {mg mb : Str → Option Value} {CX : CXT} {k : Nat} {fa a : Addr} {fd : FuncData} {x : Str} {sp : Sp} {s₁ : Shared} {vs : List Value} {ns : List Int}
    (KX : K.In s₁.heap) (hns : s₁.heap.Ns mainGlobals mg) (hb : s₁.heap.Ns builtinsNs mb) (hbb : ∀ x : Str, x ≠ "__name__" → mb x = bootBuiltins x) (hlim : s₁.heap.NoLimit) (hg : s₁.gens = #[])
    (ha : s₁.heap.get? a = some { cls := .type "list", data := .seq vs.toArray }) (hi : IntsAre vs ns) (hl : ns.length ≤ sizeLine) (hr : Room k callerA)
    (F : ∀ base : Heap, K.In base → base.Ns mainGlobals mg → FnOk P w K mg base CX k fa fd [x] sp) (hbind : ∀ (s : Shared) (u : Value), BindsTo s fd ⟨[u], []⟩ [(x, u)])
    (hsp : ∀ H : Hp, Only H → SqL K H a (ns.map V.int) → sp [.ref a] H (fun v _ => v = .bl true) fun _ _ _ => False)
    (hCX : ∀ H e s', CX [] H s₁ (fun _ _ _ => False) e s' → False) :
    codeAny (model P w) callerA (.call (.ref fa) ⟨[.ref a], []⟩) (fun r s' => r = .ok (.ret (.bool true)) ∧ OldK s₁.heap s'.heap ∧ s'.os = s₁.os ∧ AllBare s'.gens) s₁ := by
  have rv := vals_ints hi
  have lenV := hi.length
  -- from an abstract heap in which nothing but the script may be tracked
  have core : ∀ H : Hp, Only H → SqL K H a (ns.map V.int) → HOk P w H s₁.heap → (∀ b, H b ≠ none → b = a) → (H a ≠ none → K.lookup a = none) →
      codeAny (model P w) callerA (.call (.ref fa) ⟨[.ref a], []⟩) (fun r s' => r = .ok (.ret (.bool true)) ∧ OldK s₁.heap s'.heap ∧ s'.os = s₁.os ∧ AllBare s'.gens) s₁ := by
    intro H hO hS hok hA hK
    have base_of : ∀ {b : Addr} {o : Obj}, s₁.heap.get? b = some o → H b = none → (hidT s₁.heap H).get? b = some o := fun e n => hidT_get e n
    have noA : ∀ {b : Addr} {o : Obj} {es : Array DictEntry} {ep : Nat}, s₁.heap.get? b = some o → o.data = .dict es ep → H b = none := fun {b o es ep} e d => by
      cases q : H b with
      | none => rfl
      | some u =>
        have e' : b = a := hA b (by rw [q]; simp)
        subst e'
        rw [ha] at e; cases e
        have d' : Data.seq vs.toArray _ = Data.dict es ep := d
        cases d'
    have nsK : ∀ {b : Addr} {m : Str → Option Value}, s₁.heap.Ns b m → (hidT s₁.heap H).Ns b m := fun {b m} ⟨o, es, ep, e, d, r⟩ => ⟨o, es, ep, base_of e (noA e d), d, r⟩
    have hKb : K.In (hidT s₁.heap H) := fun b o e => base_of (KX b o e) (by
      cases q : H b with
      | none => rfl
      | some u =>
        have e' : b = a := hA b (by rw [q]; simp)
        subst e'
        rw [hK (by rw [q]; simp)] at e; cases e)
    have hM : Mod K mg (hidT s₁.heap H) := ⟨hKb, nsK hns, ⟨mb, nsK hb, hbb⟩, let ⟨mc, h1, h2⟩ := hlim; ⟨mc, nsK h1, h2⟩⟩
    have e0 : Env0 P w K mg (hidT s₁.heap H) callerA [] s₁ H := ⟨rfl, hM, fun b o e => of_hidT e, Nat.le_of_eq (hidT_size _ _), trivial, fun b hb => absurd (show b ∈ ([] : List Addr) from hb) (by simp), hok, .of_eq hg⟩
    refine codeAny_mono ((F _ hKb (nsK hns)).run callerA [] s₁ H ⟨[.ref a], []⟩ [.ref a] [.ref a] _ _ hr e0 (hbind s₁ (.ref a)) (.cons rfl .nil) (hsp H hO hS)) fun r s' h => ?_
    cases r with
    | error e => exact (hCX H e s' h).elim
    | ok fl =>
      cases fl with
      | next => exact False.elim h
      | brk => exact False.elim h
      | cont => exact False.elim h
      | ret u =>
        obtain ⟨v, H', os, bare, un, hok', r', q⟩ := h
        have q' : v = .bl true := q
        subst q'
        obtain rfl : u = Value.bool true := r'
        refine ⟨rfl, OldK.of_keep fun b o e => ?_, os, bare⟩
        cases q : H b with
        | none => exact un.keep b o e q (by intro z; exact absurd (show b ∈ ([] : List Addr) from z) (by simp)) (by simp)
        | some u =>
          rcases hO b with z | ⟨ob, xs, z⟩
          · rw [q] at z; cases z
          · have z2 := un.frzs b ob _ z
            obtain ⟨e1, _⟩ := hok b _ z
            obtain ⟨e2, _⟩ := hok' b _ z2
            rw [e] at e1; cases e1
            exact e2
  cases hk : K.lookup a with
  | some o =>
    -- the script is one of the module's own objects
    have e := KX a o hk
    rw [ha] at e
    cases e
    refine core (fun _ => none) (fun _ => .inl rfl) (.inr ⟨_, vs.toArray, _, hk, rfl, rfl, rfl, by rw [List.size_toArray, lenV]; exact hl, by simpa using rv⟩) (fun b u z => by have z' : (none : Option HO) = some u := z; cases z') (fun b z => absurd rfl z) fun z => absurd rfl z
  | none =>
    refine core (fun b => if b = a then some (.frz { cls := .type "list", data := .seq vs.toArray } (.lst (ns.map V.int))) else none) (fun b => ?_) (.inl (.inr ⟨{ cls := .type "list", data := .seq vs.toArray }, if_pos rfl⟩)) (fun b u z => ?_) (fun b z => ?_) fun _ => hk
    · by_cases hb : b = a
      · exact .inr ⟨_, _, if_pos hb⟩
      · exact .inl (if_neg hb)
    · by_cases hb : b = a
      · have z' := (if_pos hb).symm.trans z
        cases z'
        subst hb
        exact ⟨ha, by rw [List.length_map]; exact hl, vs, _, rv, ha⟩
      · have z' := (if_neg hb).symm.trans z
        cases z'
    · by_cases hb : b = a
      · exact hb
      · exact absurd (if_neg hb) z
end L2

namespace L2
open PySem PySem.Spec PyProof.Rows


theorem walk_of {l : PySem.W.OpenLaw} {n k : Nat} {q : Program} {loose : List Str} {XP : (Str → Option Value) → Heap → Prop} {YP : World → Heap → Prop} {d : DefRec} {K : Params → PySem.W.Frag} {CX : World → CXT} {sp : World → Sp} {x : Str}
    (hn : l.most = some n) (hn2 : n ≤ sizeLine) (hdf : d.params.defaults = []) (hr : Room k callerA)
    (hY : ∀ (w : World) (h : Heap), YP w h → (K w.params).In h)
    (F : ∀ (w : World) (mg : Str → Option Value) (fa : Addr) (h : Heap), (K w.params).In h → h.Ns mainGlobals mg → mg d.name = some (.ref fa) →
      ∃ fd : FuncData, (∀ (s : Shared) (u : Value), BindsTo s fd ⟨[u], []⟩ [(x, u)]) ∧
        ∀ base : Heap, (K w.params).In base → base.Ns mainGlobals mg → FnOk l.prog w (K w.params) mg base (CX w) k fa fd [x] (sp w))
    (hsp : ∀ (w : World) (H : Hp) (a : Addr) (ns : List Int), ns.length ≤ n → Only H → SqL (K w.params) H a (ns.map V.int) → sp w [.ref a] H (fun v _ => v = .bl true) fun _ _ _ => False)
    (hCX : ∀ (w : World) (H : Hp) (s : Shared) (e : Value) (s' : Shared), CX w [] H s (fun _ _ _ => False) e s' → False) :
    PySem.W.WalkO q loose XP YP l.row.toRowW d [] (fun f vs => PySem.call f vs) := by
  refine Att.attach_call hn hdf fun w s₀ s₁ mg mb fa o pm cd doc a vs ns G Y ho hd hcd hmg hobj hints hlen hg => ?_
  have KX := hY w _ Y
  obtain ⟨fd, hb, hF⟩ := F w mg fa _ KX G.T.g hmg
  exact law_call KX G.T.g G.T.b G.T.builtins G.T.nolimit hg hobj hints (Nat.le_trans hlen hn2) hr hF hb (fun H hO hS => hsp w H a ns hlen hO hS) fun H e s' => hCX w H s₁ e s'
end L2


namespace L2
open PySem PySem.Spec PyProof.Rows

def inClass (s : Stmt) (j : Nat) : Stmt := match s with
  | .ClassDef _ _ _ body _ _ _ _ _ _ _ => body.getD j (.Pass ⟨0, 0, 0, 0⟩)
  | _ => .Pass ⟨0, 0, 0, 0⟩
def defArgs (s : Stmt) : Arguments := match s with
  | .FunctionDef _ a _ _ _ _ _ _ _ _ => a
  | _ => { posonlyargs := [], args := [], vararg := none, kwonlyargs := [], kw_defaults := [], kwarg := none, defaults := [] }
def defBody (s : Stmt) : List Stmt := match s with
  | .FunctionDef _ _ b _ _ _ _ _ _ _ => b
  | _ => []
def defScope (s : Stmt) : Scope := match s with
  | .FunctionDef _ _ _ _ _ _ sc _ _ _ => sc
  | _ => { kind := .function, names := [], isGenerator := false, isCoroutine := false }

abbrev CX0 : CXT := fun _ _ _ _ _ _ => False
abbrev E0 : XK := fun _ _ _ => False
theorem pass0 {X : Cx} : Passes CX0 X E0 := fun _ _ _ _ _ _ _ h => h.elim

structure Fun (K : PySem.W.Frag) (x qual : Str) (st : Stmt) (f : Addr) (fd : FuncData) : Prop where
  ex : ∃ (oc : Value) (od : Option Addr) (kV doc pm : Value) (an : Option Addr) (cdv ct : Value) (osl : Array (Option Value)),
    fd = PySem.W.fnOf x qual (defArgs st) (defBody st) (defScope st) .none kV doc pm an cdv ct ∧ K.lookup f = some ⟨oc, od, .func fd, osl⟩ ∧ PySem.W.codeIn K cdv qual = true
  kp : PySem.W.keepIn K (.ref f) = true
section
variable {P : Program} {w : World} {K : PySem.W.Frag} {mg : Str → Option Value} {base : Heap}
theorem Fun.ok {x qual : Str} {st : Stmt} {f : Addr} {fd : FuncData} {N ps : List Str} {k : Nat} {sp : Sp} (F : Fun K x qual st f fd) (S : FnScope N ps (defScope st)) (len : ∀ vs H Q E, sp vs H Q E → vs.length = ps.length)
    (hbody : ∀ (cdv : Value) (A : Around) (outer : List Env) (s : Shared) (H : Hp) (vs : List V) (Q : VK) (E : XK), Room k (A.deeper (envOfC qual (defScope st) s.heap.objs.size f cdv)) → sp vs H Q E →
      ∃ t, PSs (cxOf CX0 P w K mg base N qual (defScope st) f cdv A outer s H E).nox (defBody st) t ∧ t { nx := fun _ H' => Q .non H', rt := Q } (start N vs) H) : FnOk P w K mg base CX0 (k + 1) f fd ps sp := by
  obtain ⟨oc, od, kV, doc, pm, an, cdv, ct, osl, rfl, lk, hcd⟩ := F.ex
  refine fn_of lk hcd S len fun A outer s H vs Q E hr hsp => ?_
  obtain ⟨t, h, q⟩ := hbody cdv A outer s H vs Q E hr hsp
  exact ⟨t, h.nox, q⟩
theorem Fun.binds {x qual : Str} {st : Stmt} {f : Addr} {fd : FuncData} {ps : List Str} (F : Fun K x qual st f fd)
    (h : ∀ (kV doc pm : Value) (an : Option Addr) (cdv ct : Value) (us : List Value), us.length = ps.length → bindArgs (PySem.W.fnOf x qual (defArgs st) (defBody st) (defScope st) .none kV doc pm an cdv ct) ⟨us, []⟩ = pure (ps.zip us)) : Binds K fd ps [] := by
  obtain ⟨oc, od, kV, doc, pm, an, cdv, ct, osl, rfl, lk, hcd⟩ := F.ex
  exact .all (h kV doc pm an cdv ct)
theorem fun_mk {x qual : Str} {st : Stmt} {f : Addr} {oc : Value} {od an : Option Addr} {osl : Array (Option Value)} {kV doc pm cdv ct : Value} (l : K.lookup f = some ⟨oc, od, .func (PySem.W.fnOf x qual (defArgs st) (defBody st) (defScope st) .none kV doc pm an cdv ct), osl⟩)
    (c : PySem.W.codeIn K cdv qual = true) (k : PySem.W.keepIn K (.ref f) = true) : Fun K x qual st f (PySem.W.fnOf x qual (defArgs st) (defBody st) (defScope st) .none kV doc pm an cdv ct) := ⟨⟨oc, od, kV, doc, pm, an, cdv, ct, osl, rfl, l, c⟩, k⟩
end
theorem small1000 {n : Nat} (h : n ≤ 1000) : n < sizeLine := Nat.lt_of_le_of_lt h (by decide)

section
variable {X : Cx}
theorem pv (i : Nat) {x : Str} {pos : Pos} (hN : X.N[i]? = some x := by rfl) (hv : Vis X.env.scope x := by first | exact Or.inl rfl | exact Or.inr (Or.inl rfl) | exact Or.inr (Or.inr rfl)) (hd : (x == ("__debug__" : Str)) = false := by decide)
    (hcd : (x == ("__classdict__" : Str)) = false := by decide) : PE X (.Name x pos) (tVar i) := pe_var hN hv hd hcd
end

theorem iteF {A B : Prop} (h : B) : if false = true then A else B := by
  rw [if_neg Bool.false_ne_true]
  exact h
theorem iteT {A B : Prop} (h : A) : if true = true then A else B := by
  rw [if_pos rfl]
  exact h
theorem ite2 {c A B : Prop} [Decidable c] (h1 : c → A) (h2 : ¬ c → B) : if c then A else B := by
  by_cases h : c
  · rw [if_pos h]
    exact h1 h
  · rw [if_neg h]
    exact h2 h

def Same (H H' : Hp) : Prop := ∀ b o, H b = some o → H' b = some o
theorem Same.refl (H : Hp) : Same H H := fun _ _ h => h
theorem Same.trans {H H1 H2 : Hp} (a : Same H H1) (b : Same H1 H2) : Same H H2 := fun c o h => b c o (a c o h)
theorem Same.free {H H' : Hp} (e : Same H H') {l : Addr} (h : H' l = Option.none) : H l = Option.none := by
  cases q : H l with
  | none => rfl
  | some o =>
    rw [e l o q] at h
    cases h
theorem Same.seq {K : PySem.W.Frag} {H H' : Hp} {a : Addr} {xs : List V} (e : Same H H') (h : SqL K H a xs) : SqL K H' a xs := by
  rcases h with (h | ⟨o, h⟩) | h
  · exact .inl (.inl (e _ _ h))
  · exact .inl (.inr ⟨o, e _ _ h⟩)
  · exact .inr h

end L2

namespace L3
open PySem PySem.Spec PyProof.Rows L2

theorem b_len : bootBuiltins "len" = some (.builtin "len") := by decide +kernel
theorem b_max : bootBuiltins "max" = some (.builtin "max") := by decide +kernel
theorem b_min : bootBuiltins "min" = some (.builtin "min") := by decide +kernel
theorem b_divmod : bootBuiltins "divmod" = some (.builtin "divmod") := by decide +kernel
theorem b_repr : bootBuiltins "repr" = some (.builtin "repr") := by decide +kernel
theorem b_isinstance : bootBuiltins "isinstance" = some (.builtin "isinstance") := by decide +kernel
theorem b_any : bootBuiltins "any" = some (.builtin "any") := by decide +kernel
theorem b_sorted : bootBuiltins "sorted" = some (.builtin "sorted") := by decide +kernel
theorem b_int : bootBuiltins "int" = some (.type "int") := by decide +kernel
theorem b_bool : bootBuiltins "bool" = some (.type "bool") := by decide +kernel
theorem b_tuple : bootBuiltins "tuple" = some (.type "tuple") := by decide +kernel
theorem b_list : bootBuiltins "list" = some (.type "list") := by decide +kernel

def TyV (K : PySem.W.Frag) (H : Hp) (x : V) (T : String) : Prop := match x with
  | .non => T = "NoneType"
  | .bl _ => T = "bool"
  | .int _ => T = "int"
  | .str _ => T = "str"
  | .ref a => (T = "tuple" ∧ ∃ xs, SqT K H a xs) ∨ (T = "list" ∧ ∃ xs, SqL K H a xs) ∨ (T = "dict" ∧ ∃ kvs, H a = some (.dK kvs))
  | _ => False
section
variable {X : Cx} {a b c : Expr} {ta tb tc : TE} {pos : Pos}
def rIsi (K : PySem.W.Frag) : List V → Hp → VK → Prop := fun xs H Q => ∃ x T t k, xs = [x, .ty T] ∧ TyV K H x t ∧ PySem.W.kitOne K (.type t) (.type T) = some k ∧ Q (.bl k) H
theorem call_isi : CallR X (.builtin "isinstance") (rIsi X.K) := by
  intro pins s σ H xs us Q I r h
  obtain ⟨x, T, t, k, rfl, ty, e, q⟩ := h
  obtain ⟨u, w', rfl, rx, rt⟩ := vals2 r
  cases (show w' = Value.type T from rt)
  have fin : ∀ tk, EP X pins σ Q (.bool k) { s with toks := tk } := fun tk => ⟨.bl k, H, I.tok _, rfl, q⟩
  cases x with
  | non => cases (show t = "NoneType" from ty); exact isinst_ok I rx .non e fin
  | bl y => cases (show t = "bool" from ty); exact isinst_ok I rx (.bl y) e fin
  | int i => cases (show t = "int" from ty); exact isinst_ok I rx (.int i) e fin
  | str y => cases (show t = "str" from ty); exact isinst_ok I rx (.str y) e fin
  | byt y => exact ty.elim
  | flt y => exact ty.elim
  | ty y => exact ty.elim
  | ref a =>
    cases (show u = Value.ref a from rx)
    rcases ty with ⟨rfl, xs, hq⟩ | ⟨rfl, xs, hq⟩ | ⟨rfl, kvs, hq⟩
    · obtain ⟨its, _, ⟨o, h1, h2, _⟩, _⟩ := I.tuple hq
      exact PySem.W.kia_one PySem.W.kitx_tuple I.kIn ⟨o, h1, h2⟩ e (fun z => nomatch z) fin
    · obtain ⟨its, _, pl, _⟩ := I.list hq
      obtain ⟨o, h1, h2, _⟩ := pl.isList
      exact PySem.W.kia_one PySem.W.kitx_list I.kIn ⟨o, h1, h2⟩ e (fun z => nomatch z) fin
    · exact isinst_ok (x := V.ref a) I (show RelV (.ref a) (.ref a) from rfl) (.dK hq) e fin

theorem pe_tyn {x : Str} {T : String} {pos : Pos} (hg : Gl X x) (hm : X.mg x = none) (hv : bootBuiltins x = some (.type T)) (hn : x ≠ "__name__" := by decide) (hd : (x == ("__debug__" : Str)) = false := by decide) : PE X (.Name x pos) (tC (.ty T)) :=
  pe_bltn hg hm hv (show RelV (.ty T) (Value.type T) from rfl) hn hd
theorem op_mulG : OpR X (binaryOp .Mult) (rI IntMulOk fun i j => .int (i * j)) := opI fun _ _ _ _ _ _ _ hc q => mul_int q hc
def CDivL (i j : Int) : Prop := 0 < j ∧ j < 2 ^ 200
theorem CDivL.py {i j : Int} (h : CDivL i j) : Builtin.divisionGoesByPylong i j = false := by
  refine PyProof.noPylong_of_log2 ?_
  obtain ⟨h1, h2⟩ := h
  have h0 : j.natAbs ≠ 0 := by omega
  have h3 : j.natAbs < 2 ^ 200 := by
    have : (j.natAbs : Int) = j := by omega
    have h4 : ((j.natAbs : Nat) : Int) < ((2 ^ 200 : Nat) : Int) := by rw [this]; exact h2
    exact Int.ofNat_lt.mp h4
  exact Nat.lt_of_lt_of_le ((Nat.log2_lt h0).mpr h3) (by decide)
theorem op_fdivL : OpR X (binaryOp .FloorDiv) (rI CDivL fun i j => .int (i / j)) := opI fun i j _ _ _ _ _ hc q => by
  have := hc.1
  refine floordiv_int (by omega) ?_ (.inl hc.py)
  rw [Int.fdiv_eq_ediv_of_nonneg i (by omega)]
  exact q
theorem call_divmodL : CallR X (.builtin "divmod") (fun xs H Q => ∃ i j, xs = [.int i, .int j] ∧ CDivL i j ∧ ∀ p, H p = none → Q (.ref p) (upd H p (.tup [.int (i / j), .int (i % j)]))) := by
  intro pins s σ H xs us Q I r h
  obtain ⟨i, j, rfl, hc, q⟩ := h
  have h1 := hc.1
  obtain ⟨u, w', rfl, ⟨t, rfl⟩, ⟨t', rfl⟩⟩ := vals2 r
  refine divmod_int (by omega) ?_ (.inl hc.py)
  rw [Int.fdiv_eq_ediv_of_nonneg i (by omega), Int.fmod_eq_emod_of_nonneg i (by omega)]
  have hn : H s.heap.objs.size = none := I.hok.fresh (Nat.le_refl _)
  refine ⟨.ref s.heap.objs.size, _, ?_, rfl, q _ hn⟩
  refine I.laid (fun b o e => Heap.get?_push_of_some _ e) (Nat.le_refl _) ⟨by simp only [List.length_cons, List.length_nil]; rw [sizeLine_eq]; decide, [.int (i / j) s.toks, .int (i % j) (s.toks + 1)], .cons ⟨_, rfl⟩ (.cons ⟨_, rfl⟩ .nil), ?_⟩
  exact ⟨_, Heap.get?_push_size s.heap rfl, rfl, 0, rfl⟩
def RepI (i : Int) : Prop := i.natAbs.log2 < 1920
end

def Callee (P : Program) (w : World) (K : PySem.W.Frag) (mg : Str → Option Value) (base : Heap) (k : Nat) (x : Str) (ps : List Str) (sp : Sp) : Prop :=
  ∃ (f : Addr) (fd : FuncData), FnOk P w K mg base CX0 k f fd ps sp ∧ Binds K fd ps [] ∧ PySem.W.keepIn K (.ref f) = true ∧ mg x = some (.ref f)
theorem Callee.mono {P : Program} {w : World} {K : PySem.W.Frag} {mg : Str → Option Value} {base : Heap} {j k : Nat} {x : Str} {ps : List Str} {sp : Sp} (C : Callee P w K mg base j x ps sp) (h : j ≤ k) : Callee P w K mg base k x ps sp := by
  obtain ⟨f, fd, F, b, kp, m⟩ := C
  exact ⟨f, fd, F.mono h, b, kp, m⟩
section
variable {X : Cx} {k : Nat} {ps : List Str} {sp : Sp} {x : Str} {p pos : Pos} {e : Expr} {es : List Expr} {t : TA}
theorem pe_callC (C : Callee X.prog X.w X.K X.mg X.base k x ps sp) (hr : Room k X.A) (hg : Gl X x)
    (ha : PA X (e :: es) t) (hdb : (x == ("__debug__" : Str)) = false := by decide) (he : starEach (e :: es) X.env = (false, eval e X.env) :: starEach es X.env := by rfl) (hpl : (backTo pos (starEach es X.env)).any (·.1) = false := by rfl) :
    PE X (.Call (.Name x p) (e :: es) [] pos) (tCall sp [] E0 t) := by
  obtain ⟨f, fd, F, b, kp, m⟩ := C
  exact pe_call F hr hg m kp b .nil pass0 ha hdb he hpl
end

structure Grow (m : List Addr) (H H' : Hp) : Prop where
  keep : ∀ b o, b ∉ m → H b = some o → H' b = some o
  tup : ∀ b xs, H b = some (.tup xs) → H' b = some (.tup xs)
  frz : ∀ b o u, H b = some (.frz o u) → H' b = some (.frz o u)
theorem Grow.refl (m : List Addr) (H : Hp) : Grow m H H := ⟨fun _ _ _ h => h, fun _ _ h => h, fun _ _ _ h => h⟩
theorem Grow.trans {m : List Addr} {H H1 H2 : Hp} (a : Grow m H H1) (b : Grow m H1 H2) : Grow m H H2 :=
  ⟨fun c o n h => b.keep c o n (a.keep c o n h), fun c xs h => b.tup c xs (a.tup c xs h), fun c o u h => b.frz c o u (a.frz c o u h)⟩
theorem Grow.new {m : List Addr} {H : Hp} {p : Addr} (h : H p = none) (o : HO) : Grow m H (upd H p o) :=
  ⟨fun b u _ q => by rw [upd_ne (ne_of_none q h)]; exact q, fun b xs q => by rw [upd_ne (ne_of_none q h)]; exact q, fun b u v q => by rw [upd_ne (ne_of_none q h)]; exact q⟩
theorem Grow.set {m : List Addr} {H : Hp} {p : Addr} {xs : List V} (h : H p = some (.lst xs)) (hm : p ∈ m) (ys : List V) : Grow m H (upd H p (.lst ys)) :=
  ⟨fun b u hb q => by rw [upd_ne (show b ≠ p from fun z => hb (by rw [z]; exact hm))]; exact q, fun b zs q => by rw [upd_ne (fun z => by subst z; rw [h] at q; cases q)]; exact q, fun b u v q => by rw [upd_ne (fun z => by subst z; rw [h] at q; cases q)]; exact q⟩
theorem Grow.mono {m m' : List Addr} {H H' : Hp} (a : Grow m H H') (h : ∀ b ∈ m, b ∈ m') : Grow m' H H' := ⟨fun b o n q => a.keep b o (fun z => n (h b z)) q, a.tup, a.frz⟩
theorem Grow.same {H H' : Hp} (a : Grow [] H H') : Same H H' := fun b o h => a.keep b o (by simp) h
theorem Grow.sqT {m : List Addr} {H H' : Hp} (g : Grow m H H') {K : PySem.W.Frag} {a : Addr} {xs : List V} (h : SqT K H a xs) : SqT K H' a xs := by
  rcases h with (h | ⟨o, h⟩) | h
  · exact .inl (.inl (g.tup _ _ h))
  · exact .inl (.inr ⟨o, g.frz _ _ _ h⟩)
  · exact .inr h
theorem Grow.free {H H' : Hp} {m : List Addr} (g : Grow m H H') {l : Addr} (hm : l ∉ m) (h : H' l = none) : H l = none := by
  cases q : H l with
  | none => rfl
  | some o => rw [g.keep l o hm q] at h; cases h
def Scr (K : PySem.W.Frag) (H : Hp) (a : Addr) (ns : List Int) : Prop :=
  (∃ o, H a = some (.frz o (.lst (ns.map V.int)))) ∨
    ∃ (o : Obj) (its : Array Value) (n : Nat), K.lookup a = some o ∧ o.cls = .type "list" ∧ o.dict = none ∧ o.data = .seq its n ∧ its.size ≤ sizeLine ∧ Vals (ns.map V.int) its.toList
theorem Scr.sq {K : PySem.W.Frag} {H : Hp} {a : Addr} {ns : List Int} (h : Scr K H a ns) : SqL K H a (ns.map V.int) := by
  rcases h with ⟨o, h⟩ | h
  · exact .inl (.inr ⟨o, h⟩)
  · exact .inr h
theorem Scr.of {K : PySem.W.Frag} {H : Hp} {a : Addr} {ns : List Int} (hO : Only H) (h : SqL K H a (ns.map V.int)) : Scr K H a ns := by
  rcases h with (h | ⟨o, h⟩) | h
  · rcases hO a with z | ⟨o, xs, z⟩
    · rw [h] at z; cases z
    · rw [h] at z; cases z
  · exact .inl ⟨o, h⟩
  · exact .inr h
theorem Grow.scr {m : List Addr} {H H' : Hp} (g : Grow m H H') {K : PySem.W.Frag} {a : Addr} {ns : List Int} (h : Scr K H a ns) : Scr K H' a ns := by
  rcases h with ⟨o, h⟩ | h
  · exact .inl ⟨o, g.frz _ _ _ h⟩
  · exact .inr h
end L3

namespace L3
open PySem PySem.Spec PyProof.Rows L2

structure Blt (mg : Str → Option Value) : Prop where
  abs : mg "abs" = none
  len : mg "len" = none
  max : mg "max" = none
  min : mg "min" = none
  divmod : mg "divmod" = none
  repr : mg "repr" = none
  isinstance : mg "isinstance" = none
  all : mg "all" = none
  range : mg "range" = none
  int : mg "int" = none
  bool : mg "bool" = none
  str : mg "str" = none
  tuple : mg "tuple" = none
  list : mg "list" = none
  dict : mg "dict" = none

def sp1 (b : V → Hp → VK → Prop) : Sp := fun vs H Q _ => ∃ x, vs = [x] ∧ b x H Q
def sp2 (b : V → V → Hp → VK → Prop) : Sp := fun vs H Q _ => ∃ x y, vs = [x, y] ∧ b x y H Q
def sp3 (b : V → V → V → Hp → VK → Prop) : Sp := fun vs H Q _ => ∃ x y z, vs = [x, y, z] ∧ b x y z H Q
theorem sp1_len {b : V → Hp → VK → Prop} {p : Str} : ∀ vs H Q E, sp1 b vs H Q E → vs.length = [p].length := fun vs H Q E h => by
  obtain ⟨x, rfl, _⟩ := h; rfl
theorem sp2_len {b : V → V → Hp → VK → Prop} {p q : Str} : ∀ vs H Q E, sp2 b vs H Q E → vs.length = [p, q].length := fun vs H Q E h => by
  obtain ⟨x, y, rfl, _⟩ := h; rfl
theorem sp3_len {b : V → V → V → Hp → VK → Prop} {p q r : Str} : ∀ vs H Q E, sp3 b vs H Q E → vs.length = [p, q, r].length := fun vs H Q E h => by
  obtain ⟨x, y, z, rfl, _⟩ := h; rfl

structure Deed where
  add : Int
  lo : Option Int
  hi : Option Int
  deriving DecidableEq
def ov : Option Int → V
  | none => .non
  | some i => .int i
def Deed.vs (d : Deed) : List V := [.int d.add, ov d.lo, ov d.hi]
def Deed.Ok (d : Deed) : Prop := ∀ l h, d.lo = some l → d.hi = some h → l < h ∨ (l = h ∧ d.add = 0)
def clampLo (lo : Option Int) (r : Int) : Int := match lo with
  | none => r
  | some l => if l > r then l else r
def clampHi (hi : Option Int) (r : Int) : Int := match hi with
  | none => r
  | some h => if h < r then h else r
def Deed.mk' (d : Deed) (v : Int) : Int := clampHi d.hi (clampLo d.lo (v + d.add))
def DeedAt (K : PySem.W.Frag) (H : Hp) (x : V) (d : Deed) : Prop := ∃ a, x = .ref a ∧ SqT K H a d.vs
theorem Grow.deed {m : List Addr} {H H' : Hp} (g : Grow m H H') {K : PySem.W.Frag} {x : V} {d : Deed} (h : DeedAt K H x d) : DeedAt K H' x d := by
  obtain ⟨a, e, h⟩ := h
  exact ⟨a, e, g.sqT h⟩


def Pot (H : Hp) (a : Addr) : Prop := ∃ p0 p1 : Int, H a = some (.lst [.int p0, .int p1]) ∧ 0 ≤ p0
def Sm (n : Int) : Prop := -(10 ^ 30) < n ∧ n < 10 ^ 30
def Deed.Sm (d : Deed) : Prop := L3.Sm d.add ∧ (∀ l, d.lo = some l → L3.Sm l) ∧ ∀ h, d.hi = some h → L3.Sm h
def sp_pot (K : PySem.W.Frag) : Sp := sp2 fun x y H Q => ∃ a ns k, x = .ref a ∧ y = .int k ∧ Scr K H a ns ∧ 0 ≤ k ∧ k < 1000 ∧ ∀ p H', H p = none → Grow [] H H' → Pot H' p → Q (.ref p) H'
def sp_take (_ : PySem.W.Frag) : Sp := sp2 fun x y H Q => ∃ a m, x = .ref a ∧ y = .int m ∧ Pot H a ∧ 0 < m ∧ m < 2 ^ 200 ∧ ∀ n H', 0 ≤ n → n < m → Grow [a] H H' → Pot H' a → Q (.int n) H'
theorem Sm.of {n : Int} (h1 : -(10 ^ 30) < n) (h2 : n < 10 ^ 30) : Sm n := ⟨h1, h2⟩
def sp_law (K : PySem.W.Frag) : Sp := sp1 fun x H Q => ∃ a ns, x = .ref a ∧ Scr K H a ns ∧ ns.length ≤ 63 ∧ ∀ H', Q (.bl true) H'
theorem szl {n : Nat} (h : Nat.ble n 1000 = true) : n ≤ sizeLine := Nat.le_of_lt (small1000 (Nat.le_of_ble_eq_true h))
theorem Grow.shrink {H H' : Hp} {l : Addr} (h : H l = none) (g : Grow [l] H H') : Grow [] H H' :=
  ⟨fun b o _ q => g.keep b o (fun z => by rw [List.mem_singleton.mp z] at q; rw [h] at q; cases q) q, g.tup, g.frz⟩
theorem Grow.wk {m : List Addr} {H H' : Hp} (g : Grow [] H H') : Grow m H H' := g.mono (by simp)
theorem Pot.grow {H H' : Hp} {a : Addr} (p : Pot H a) (g : Grow [] H H') : Pot H' a := by
  obtain ⟨u0, u1, hu, hn⟩ := p
  exact ⟨u0, u1, g.keep _ _ (by simp) hu, hn⟩
theorem Pot.new {H : Hp} {a l : Addr} (p : Pot H a) (hl : H l = none) (o : HO) : Pot (upd H l o) a := p.grow (Grow.new hl o)
theorem mulOkR {i j : Int} (h2 : -(2 ^ 60) < j ∧ j < 2 ^ 60) : IntMulOk i j := PySem.IntMulOk.of_right (Nat.le_trans ((PySem.intBits_le_iff (m := 60)).mpr (by obtain ⟨a, b⟩ := h2; omega)) (by decide))
end L3

namespace L3
open PySem PySem.Spec PyProof.Rows L2

section
variable {prog : Program} {w : World} {A : Around} {R : Result → Shared → Prop} {s : Shared}
theorem comp_loop {elt target iter : Expr} {ifs : List Expr} {scope : Scope} {pos : Pos} {it acc : Value} {env : Env} (I : Nat → Shared → Prop)
    (turn : ∀ n s, I n s → wpAny (model prog w) A (pyNext it) (fun r s₁ => match r with
      | none => R (.ok .next) s₁
      | some v => wpAny (model prog w) A (letOwnedTupleGo target it v) (fun _ s₂ => wpAny (model prog w) A (assign target env v) (fun _ s₃ =>
          wpAny (model prog w) A (forIn ifs true fun c r => if r = true then do let ok ← isTrue c env (eval c env); pure (ForInStep.yield ok) else pure (ForInStep.yield r)) (fun ok s₄ =>
            if ok = true then wpAny (model prog w) A (eval elt env) (fun x s₅ =>
              wpAny (model prog w) A (call (.builtin "list.append") [acc, x]) (fun _ s₆ => ∃ m, m < n ∧ I m s₆) (fun _ _ => False) s₅) (fun _ _ => False) s₄
            else ∃ m, m < n ∧ I m s₄) (fun _ _ => False) s₃) (fun _ _ => False) s₂) (fun _ _ => False) s₁) (fun _ _ => False) s)
    (n : Nat) (h : I n s) :
    codeAny (model prog w) A (.compLoop (.ListComp elt [⟨target, iter, ifs, 0⟩] scope pos) 0 it acc env) R s := by
  refine codeAny_loop rfl I (fun n s hI => ?_) n h
  show wpAny _ A ((compTurn (.ListComp elt [⟨target, iter, ifs, 0⟩] scope pos) 0 it acc env).onRaise (fun x => do noteFrame x env; theTreesLotGoes x)) _ _ s
  refine wpAny_noted ?_
  rw [compTurn_list]
  have no : ∀ (E : Value → Shared → Prop) (e : Value) (s : Shared), (fun (_ : Value) (_ : Shared) => False) e s → E e s := fun _ _ _ f => f.elim
  refine wpAny_bind (wpAny_standAt (wpAny_bind (wpAny_mono (turn n s hI) (fun r s₁ h₁ => ?_) (no _))))
  cases r with
  | none => exact wpAny_pure h₁
  | some v =>
    refine wpAny_bind (wpAny_mono h₁ (fun _ s₂ h₂ => ?_) (no _))
    refine wpAny_bind (wpAny_mono h₂ (fun _ s₃ h₃ => wpAny_bind (wpAny_mono h₃ (fun ok s₄ h₄ => ?_) (no _))) (no _))
    cases ok with
    | true =>
      simp only [if_true] at h₄ ⊢
      exact wpAny_bind (wpAny_bind (wpAny_mono h₄ (fun x s₅ h₅ => wpAny_bind (wpAny_mono h₅ (fun _ s₆ h₆ => wpAny_pure (wpAny_pure ⟨rfl, h₆⟩)) (no _))) (no _)))
    | false =>
      simp only [Bool.false_eq_true, if_false] at h₄ ⊢
      first
        | exact wpAny_bind (wpAny_pure (wpAny_pure ⟨rfl, h₄⟩))
        | exact wpAny_pure ⟨rfl, h₄⟩
end

theorem closure_ok {scope : Scope} {env : Env} (hfree : ∀ y ∈ scope.names, y.2 = .free → ∃ c, env.cells.lookup y.1 = some c) :
    ∃ cl, closureFor scope env = pure cl ∧ (∀ x c, cl.lookup x = some c → env.cells.lookup x = some c) ∧ ∀ y ∈ scope.names, y.2 = .free → ∃ c, cl.lookup y.1 = some c := by
  have key : ∀ (l : List (Str × NameKind)) (cs : List (Str × Addr)), (∀ y ∈ l, y.2 = .free → ∃ c, env.cells.lookup y.1 = some c) → (∀ x c, cs.lookup x = some c → env.cells.lookup x = some c) →
      ∃ cl, (forIn l cs (fun (x : Str × NameKind) r => do if x.2 == .free then do let c ← cellOf env x.1; pure (ForInStep.yield ((x.1, c) :: r)) else pure (ForInStep.yield r)) : Sem (List (Str × Addr))) = pure cl ∧
        (∀ x c, cl.lookup x = some c → env.cells.lookup x = some c) ∧ (∀ y ∈ l, y.2 = .free → ∃ c, cl.lookup y.1 = some c) ∧ ∀ x c, cs.lookup x = some c → ∃ c', cl.lookup x = some c' := by
    intro l
    induction l with
    | nil => intro cs _ h2; exact ⟨cs, rfl, h2, fun y hy => absurd hy (by simp), fun x c h => ⟨c, h⟩⟩
    | cons y r ih =>
      intro cs h1 h2
      obtain ⟨n, k⟩ := y
      by_cases hk : k = .free
      · subst hk
        obtain ⟨c, hc⟩ := h1 (n, .free) (by simp) rfl
        have hc' : env.cells.lookup n = some c := hc
        have e0 : cellOf env n = pure c := by unfold cellOf; rw [hc']
        obtain ⟨cl, e, p1, p2, p3⟩ := ih ((n, c) :: cs) (fun z hz => h1 z (List.mem_cons_of_mem _ hz)) (fun x d h => by
          by_cases hx : x = n
          · subst hx
            rw [List.lookup_cons_self] at h
            cases h; exact hc'
          · rw [List.lookup_cons, beq_eq_false_iff_ne.mpr hx] at h
            exact h2 x d h)
        refine ⟨cl, ?_, p1, fun z hz => ?_, fun x d h => ?_⟩
        · rw [List.forIn_cons]
          simp only [beq_self_eq_true, if_true, e0, pure_bind]
          exact e
        · rcases List.mem_cons.mp hz with rfl | hz
          · intro _
            exact p3 n c List.lookup_cons_self
          · exact p2 z hz
        · by_cases hx : x = n
          · subst hx; exact p3 x c List.lookup_cons_self
          · exact p3 x d (by rw [List.lookup_cons, beq_eq_false_iff_ne.mpr hx]; exact h)
      · have hb : (k == NameKind.free) = false := beq_eq_false_iff_ne.mpr hk
        obtain ⟨cl, e, p1, p2, p3⟩ := ih cs (fun z hz => h1 z (List.mem_cons_of_mem _ hz)) h2
        refine ⟨cl, ?_, p1, fun z hz => ?_, p3⟩
        · rw [List.forIn_cons]
          simp only [hb, Bool.false_eq_true, if_false, pure_bind]
          exact e
        · rcases List.mem_cons.mp hz with rfl | hz
          · intro h; exact absurd h hk
          · exact p2 z hz
  obtain ⟨cl, e, p1, p2, _⟩ := key scope.names [] hfree (fun x c h => by cases h)
  refine ⟨cl, ?_, p1, p2⟩
  unfold closureFor
  first
    | (rw [show (forIn scope.names [] _ : Sem (List (Str × Addr))) = pure cl from e]; rfl)
    | (simp only [bind_pure]; exact e)
    | exact e
end L3

namespace L3
open PySem PySem.Spec PyProof.Rows L2

def PIfs (X : Cx) (ifs : List Expr) (t : TT) : Prop :=
  ∀ (pins : List (Addr × Obj)) (s : Shared) (σ : L2.St) (H : Hp) (Q : Bool → Hp → Prop), Inv X pins σ H s → t σ H Q →
    wpAny (model X.prog X.w) X.A (forIn ifs true fun c r => if r = true then do let ok ← isTrue c X.env (eval c X.env); pure (ForInStep.yield ok) else pure (ForInStep.yield r)) (TP X pins σ Q) X.xe s
def tTrue : TT := fun _ H Q => Q true H
theorem pifs_nil {X : Cx} : PIfs X [] tTrue := fun pins s σ H Q I h => wpAny_pure ⟨H, I, h⟩
theorem pifs_one {X : Cx} {c : Expr} {t : TT} (hc : PT X c t) : PIfs X [c] t := fun pins s σ H Q I h => wpAny_tests_one (hc pins s σ H Q I h)

abbrev cxC (X : Cx) (N' : List Str) (scope : Scope) (cl : List (Str × Addr)) (C D : Addr) (fp : List Addr) (s : Shared) (H : Hp) : Cx :=
  { X with N := N', s₀ := s, H₀ := H, env := compEnvC scope cl C X.env, outer := X.stack, ex := D :: fp, fn := fun _ => false, xe := fun _ _ => False }
def capt (sub : List (Option Nat)) (σ : L2.St) : L2.St := sub.map fun o => match o with
  | none => none
  | some i => (match σ[i]? with | some v => v | none => none)
def CompW (J : It) (σ0 : L2.St) (H1 : Hp) (g : TG) (tt : TT) (te : TE) (Q : VK) : Prop :=
  ∃ W : Nat → Nat → List V → L2.St → Hp → Prop, (∃ m, W 0 m [] σ0 H1) ∧ ∀ i m ys σ' H', W i m ys σ' H' →
    (J.stop i H' ∧ ∀ l, H' l = none → Q (.ref l) (upd H' l (.lst ys))) ∨
    (J.go i H' ∧ ∃ Nn : List V → L2.St → Hp → Prop, (∀ zs σ2 H2, Nn zs σ2 H2 → ∃ m', m' < m ∧ W (i + 1) m' zs σ2 H2) ∧
      ∀ x H2, J.yld i H' x H2 → g x σ' H2 fun σ2 H3 => tt σ2 H3 fun b H4 => if b = true then te σ2 H4 fun y H5 => ys.length < sizeLine ∧ Nn (ys ++ [y]) σ2 H5 else Nn ys σ2 H4)
def tComp (wi : TI) (sub : List (Option Nat)) (g : TG) (tt : TT) (te : TE) : TE := fun σ H Q => wi σ H fun J H1 => CompW J (capt sub σ) H1 g tt te Q
structure CSc (X : Cx) (scope : Scope) (N' : List Str) (sub : List (Option Nat)) : Prop where
  free : ∀ y ∈ scope.names, y.2 = .free → X.env.kindOf y.1 = some .cell
  nocell : ∀ y ∈ scope.names, y.2 ≠ .cell
  kind : scope.kind = .function
  names : ∀ y ∈ scope.names, y.2 = .local → scope.names.lookup y.1 = some .local
  len : sub.length = N'.length
  cap : ∀ (j : Nat) (y : Str) (i : Nat), N'[j]? = some y → sub[j]? = some (some i) → X.N[i]? = some y ∧ X.env.scope.names.lookup y = some .cell ∧ scope.names.lookup y = some .free

theorem HOk.track {P : Program} {w : World} {H : Hp} {h : Heap} {a : Addr} {o : HO} (x : HOk P w H h) (hn : H a = none) (new : ObjOk P w (upd H a o) h a o) : HOk P w (upd H a o) h := fun b u e => by
  by_cases hb : b = a
  · subst hb; rw [upd_same] at e; cases e; exact new
  · rw [upd_ne hb] at e
    exact (x b u e).stay (fun c v _ q => q) (fun c q => by rw [upd_ne (ne_of_none q hn)]; exact q) fun c xs q => by rw [upd_ne (ne_of_none q hn)]; exact q
theorem relabel_lookup {scope : Scope} {env : Env} {y : Str} {k : NameKind} (h : (relabel scope env).names.lookup y = some k) :
    ∃ k', scope.names.lookup y = some k' ∧ (k = k' ∨ (k = .cell ∧ k' = .free)) := by
  have key : ∀ l : List (Str × NameKind), (l.map fun (n, k) => if (k == NameKind.free && env.scope.kind == .function && env.kindOf n == some .cell) then (n, NameKind.cell) else (n, k)).lookup y = some k →
      ∃ k', l.lookup y = some k' ∧ (k = k' ∨ (k = .cell ∧ k' = .free)) := by
    intro l
    induction l with
    | nil => intro h; cases h
    | cons p r ih =>
      obtain ⟨n, k0⟩ := p
      intro h
      rw [List.map_cons] at h
      by_cases hc : (k0 == NameKind.free && env.scope.kind == .function && env.kindOf n == some .cell) = true
      · have hf : k0 = .free := by
          simp only [Bool.and_eq_true, beq_iff_eq] at hc
          exact hc.1.1
        dsimp only at h
        rw [if_pos hc, List.lookup_cons] at h
        rw [List.lookup_cons]
        cases hx : y == n with
        | true => rw [hx] at h; cases h; exact ⟨k0, rfl, .inr ⟨rfl, hf⟩⟩
        | false => rw [hx] at h; exact ih h
      · dsimp only at h
        rw [if_neg hc, List.lookup_cons] at h
        rw [List.lookup_cons]
        cases hx : y == n with
        | true => rw [hx] at h; cases h; exact ⟨_, rfl, .inl rfl⟩
        | false => rw [hx] at h; exact ih h
  exact key scope.names h
theorem relabel_cell {scope : Scope} {env : Env} {y : Str} (hk : env.scope.kind = .function) (hc : env.kindOf y = some .cell) (h : scope.names.lookup y = some .free) : (relabel scope env).names.lookup y = some .cell := by
  have key : ∀ l : List (Str × NameKind), l.lookup y = some .free → (l.map fun (n, k) => if (k == NameKind.free && env.scope.kind == .function && env.kindOf n == some .cell) then (n, NameKind.cell) else (n, k)).lookup y = some .cell := by
    intro l
    induction l with
    | nil => intro h; cases h
    | cons p r ih =>
      obtain ⟨n, k0⟩ := p
      intro h
      rw [List.map_cons]
      rw [List.lookup_cons] at h
      dsimp only
      cases hx : y == n with
      | true =>
        rw [hx] at h
        cases h
        have e : y = n := by simpa using hx
        subst e
        rw [if_pos (by simp [hk, hc]), List.lookup_cons, hx]
      | false =>
        rw [hx] at h
        by_cases hc2 : (k0 == NameKind.free && env.scope.kind == .function && env.kindOf n == some .cell) = true
        · rw [if_pos hc2, List.lookup_cons, hx]; exact ih h
        · rw [if_neg hc2, List.lookup_cons, hx]; exact ih h
  exact key scope.names h
section
variable {X : Cx} {pins : List (Addr × Obj)} {σ : L2.St} {H2 : Hp} {s₂ : Shared} {it : Addr} {fp : List Addr} {tn : Nat → Heap → Prop} {J : It} {scope : Scope} {cl : List (Str × Addr)} {N' : List Str} {sub : List (Option Nat)}
theorem comp_start {h₁ : Heap} {tk : Nat} (I : Inv X pins σ H2 s₂) (S : CSc X scope N' sub) (hcl1 : ∀ x c, cl.lookup x = some c → X.env.cells.lookup x = some c) (hcl2 : ∀ y ∈ scope.names, y.2 = .free → ∃ c, cl.lookup y.1 = some c)
    (f2 : ∀ b ∈ fp, FpOk X pins H2 b) (hfp : ∀ b ∈ fp, b < s₂.heap.objs.size) {m : Str → Option Value} {ob : Obj}
    (hns : h₁.Ns (s₂.heap.objs.size + 1) m) (hk : ∀ b o, (s₂.heap.push ob).get? b = some o → h₁.get? b = some o) :
    Inv (cxC X N' scope cl (s₂.heap.objs.size + 1) s₂.heap.objs.size fp { s₂ with heap := s₂.heap.push ob } H2) pins (capt sub σ) H2 { s₂ with heap := h₁, toks := tk } := by
  have old : ∀ b o, s₂.heap.get? b = some o → (s₂.heap.push ob).get? b = some o := fun b o e => Heap.get?_push_of_some _ e
  have old2 : ∀ b o, s₂.heap.get? b = some o → h₁.get? b = some o := fun b o e => hk b o (old b o e)
  have sz : (s₂.heap.push ob).objs.size = s₂.heap.objs.size + 1 := Heap.size_push ..
  have cells : ∀ x c, cl.lookup x = some c → c < s₂.heap.objs.size := fun x c e => let ⟨v, q⟩ := I.cell x c (hcl1 x c e); q.lt
  have has : ∀ x, ((relabel scope X.env).names.lookup x = some .cell ∨ (relabel scope X.env).names.lookup x = some .free) → ∃ c, cl.lookup x = some c := fun x hx => by
    rcases hx with hx | hx
    · obtain ⟨k', e, z⟩ := relabel_lookup hx
      rcases z with z | ⟨_, z⟩
      · subst z; exact absurd rfl (S.nocell _ (PySem.mem_of_lookup e))
      · subst z; exact hcl2 _ (PySem.mem_of_lookup e) rfl
    · obtain ⟨k', e, z⟩ := relabel_lookup hx
      rcases z with z | ⟨z, _⟩
      · subst z; exact hcl2 _ (PySem.mem_of_lookup e) rfl
      · cases z
  have frsz : ∀ b ∈ frs X.stack, b < s₂.heap.objs.size := fun b hb => by
    rcases List.mem_cons.mp (I.stkSub b hb) with z | z
    · rw [z]; exact I.lt
    · exact Nat.lt_of_not_le fun q => I.nofs q z
  refine
    { ok :=
      { mod := I.ok.mod, kind := S.kind, glob := I.ok.glob, blt := I.ok.blt
        above := by show (s₂.heap.push ob).objs.size ≤ s₂.heap.objs.size + 1; rw [sz]; exact Nat.le_refl _
        inj := fun x y c h1 h2 => I.ok.inj x y c (hcl1 x c h1) (hcl1 y c h2)
        has := has
        cab := fun x c z => by cases z
        hd := I.ok.hd, frames := I.ok.frames, stk := .inl rfl
        exf := fun b hb => ?exf
        bs := fun b o e => ⟨old b o (I.bk b o e), (I.bs b o e).2⟩
        bsz := by show X.base.objs.size ≤ (s₂.heap.push ob).objs.size; rw [sz]; exact Nat.le_succ_of_le (Nat.le_trans I.ok.bsz I.sz)
        noex := fun b o e hb => ?noex
        exfs := fun b hb => ?exfs
        funs := ?funs
        frf := I.stkFree }
      os := rfl, bare := I.bare, base := Un.kept fun b u e => hk b u e
      loc := ⟨m, hns, ?loc⟩
      cell := fun x c e => ?cell
      free := I.hok.fresh (Nat.le_succ _)
      freeC := fun x c e => I.freeC x c (hcl1 x c e)
      pin := fun p hp => ?pin
      hok := I.hok.kept old2
      len := ?len }
  case exf =>
    rcases List.mem_cons.mp hb with rfl | hb
    · exact ⟨Nat.ne_of_lt (Nat.lt_succ_self _), fun x c e => Nat.ne_of_lt (cells x c e)⟩
    · exact ⟨Nat.ne_of_lt (Nat.lt_succ_of_lt (hfp b hb)), fun x c e => (f2 b hb).2.2.2.2.1 x c (hcl1 x c e)⟩
  case noex =>
    have hl : b < X.s₀.heap.objs.size := Nat.lt_of_lt_of_le (Heap.lt_size e) I.ok.bsz
    rcases List.mem_cons.mp hb with rfl | hb
    · exact absurd (Nat.lt_of_lt_of_le hl I.sz) (Nat.lt_irrefl _)
    · rcases (f2 b hb).2.2.2.1 with z | z
      · exact I.ok.noex b o e z
      · exact absurd (Nat.lt_of_lt_of_le hl z) (Nat.lt_irrefl _)
  case exfs =>
    intro hs
    rcases List.mem_cons.mp hb with rfl | hb
    · exact absurd (frsz _ hs) (Nat.lt_irrefl _)
    · rcases List.mem_cons.mp (I.stkSub b hs) with z | z
      · exact (f2 b hb).2.1 z
      · exact (f2 b hb).2.2.1 z
  case funs => exact Heap.FunFrames.of_keeps (fun b o e _ => ⟨o, old b o e, rfl⟩) I.stack
  case loc =>
    intro j y v hj hv hvis
    obtain ⟨mX, _, lX⟩ := I.loc
    unfold capt at hv
    rw [List.getElem?_map] at hv
    cases hs : sub[j]? with
    | none => rw [hs] at hv; cases hv
    | some o =>
      rw [hs] at hv
      cases o with
      | none => cases hv
      | some i =>
        obtain ⟨hN, hc, hf⟩ := S.cap j y i hj hs
        have hv' : σ[i]? = some (some v) := by
          have z : (match σ[i]? with | some v => v | none => none) = some v := Option.some.inj hv
          cases q : σ[i]? with
          | none => rw [q] at z; cases z
          | some w => rw [q] at z; rw [show w = some v from z]
        obtain ⟨u, ru, hl⟩ := lX i y v hN hv' (.inr (.inl hc))
        refine ⟨u, ru, ?_⟩
        have kc : (relabel scope X.env).names.lookup y = some .cell := relabel_cell I.ok.kind hc hf
        rcases hl with ⟨z, _⟩ | ⟨_, c, e, ic⟩
        · have z' : X.env.scope.names.lookup y = some .local := z
          rw [hc] at z'; cases z'
        · obtain ⟨c', e'⟩ := hcl2 _ (PySem.mem_of_lookup hf) rfl
          have := hcl1 _ _ e'
          rw [e] at this; cases this
          refine .inr ⟨.inl kc, c, e', ?_⟩
          obtain ⟨oc, h1, h2⟩ := ic
          exact ⟨oc, old2 _ _ h1, h2⟩
  case cell =>
    obtain ⟨v, oc, h1, h2⟩ := I.cell x c (hcl1 x c e)
    exact ⟨v, oc, old2 _ _ h1, h2⟩
  case pin =>
    obtain ⟨p1, p2, p3, p4, p5⟩ := I.pin p hp
    refine ⟨old2 _ _ p1, p2, Nat.ne_of_lt (Nat.lt_succ_of_lt (Heap.lt_size p1)), fun hs => ?_, p5⟩
    rcases List.mem_cons.mp (I.stkSub _ hs) with z | z
    · exact p3 z
    · exact p4 z
  case len =>
    show (capt sub σ).length = N'.length
    unfold capt
    rw [List.length_map]; exact S.len
theorem comp_fin {C D : Addr} {s₀ : Shared} {s' : Shared} {σ' : L2.St} {H' : Hp} {ys : List V} {us : List Value} {k : Nat} {oC : Obj} (I : Inv X pins σ H2 s₂)
    (hs₀ : ∀ b o, s₂.heap.get? b = some o → s₀.heap.get? b = some o) (hos : s₀.os = s₂.os) (hD : s₂.heap.objs.size ≤ D) (hC : s₂.heap.objs.size ≤ C) (hDC : D ≠ C) (f2 : ∀ b ∈ fp, FpOk X pins H2 b)
    (I' : Inv (cxC X N' scope cl C D fp s₀ H2) pins σ' H' s') (hn : H' D = none) (hy : s'.heap.get? D = some { cls := .type "list", data := .seq us.toArray k }) (rv : Vals ys us) (hz : ys.length ≤ sizeLine)
    (ho : s'.heap.get? C = some oC) (hd : ∀ v, oC.data ≠ .cell v) : Inv X (pins ++ [(C, oC)]) σ (upd H' D (.lst ys)) s' ∧ FpOk X pins (upd H' D (.lst ys)) C := by
  have neD : ∀ b o, s₂.heap.get? b = some o → b ≠ D := fun b o e => Nat.ne_of_lt (Nat.lt_of_lt_of_le (Heap.lt_size e) hD)
  have nm : ∀ b o, s₂.heap.get? b = some o → b ∉ fp → b ∉ D :: fp := fun b o e h z => (List.mem_cons.mp z).elim (neD b o e) h
  have U := I'.base
  have HC : upd H' D (.lst ys) C = none := by rw [upd_ne (Ne.symm hDC)]; exact I'.free
  have fpc : FpOk X pins (upd H' D (.lst ys)) C := I.fpOk hC HC
  have un : Un (frs X.stack) fp H2 (upd H' D (.lst ys)) s₂.heap s'.heap :=
    { keep := fun b o e n h1 h2 => U.keep b o (hs₀ b o e) n h1 (nm b o e h2)
      slot := fun b o e n h1 h2 => U.slot b o (hs₀ b o e) n h1 (nm b o e h2)
      free := fun b o e n h2 => by rw [upd_ne (neD b o e)]; exact U.free b o (hs₀ b o e) n (nm b o e h2)
      there := fun b o e h2 => U.there b o (hs₀ b o e) (nm b o e h2)
      tups := fun b xs e => by have z := U.tups b xs e; rw [upd_ne (ne_of_none z hn)]; exact z
      frzs := fun b o u e => by have z := U.frzs b o u e; rw [upd_ne (ne_of_none z hn)]; exact z
      tbls := fun b ps e => by obtain ⟨more, z⟩ := U.tbls b ps e; exact ⟨more, by rw [upd_ne (ne_of_none z hn)]; exact z⟩ }
  have hok : HOk X.prog X.w (upd H' D (.lst ys)) s'.heap := HOk.track I'.hok hn ⟨hz, us, k, rv, hy⟩
  have IX : Inv X pins σ (upd H' D (.lst ys)) s' := I.call' (I'.os.trans hos) un hok I'.bare fun b hb => ⟨(f2 b hb).2.2.2.1, (f2 b hb).2.1, (f2 b hb).2.2.2.2.1, (f2 b hb).2.2.2.2.2⟩
  refine ⟨IX.pins_of fun p hp => ?_, fpc⟩
  rcases List.mem_append.mp hp with hp | hp
  · exact IX.pin p (List.mem_append_right _ hp)
  · rw [List.mem_singleton.mp hp]
    exact ⟨ho, HC, fpc.2.1, fpc.2.2.1, hd⟩
end
section
variable {X : Cx} {scope : Scope} {N' : List Str} {sub : List (Option Nat)} {x : Str} {px pos : Pos} {elt iter : Expr} {ifs : List Expr} {wi : TI} {g : TG} {tt : TT} {te : TE}
theorem CSc.clos {pins : List (Addr × Obj)} {σ : L2.St} {H : Hp} {s : Shared} (S : CSc X scope N' sub) (I : Inv X pins σ H s) : ∃ cl, closureFor scope X.env = pure cl ∧ (∀ x c, cl.lookup x = some c → X.env.cells.lookup x = some c) ∧ ∀ y ∈ scope.names, y.2 = .free → ∃ c, cl.lookup y.1 = some c :=
  closure_ok fun y hy hf => I.ok.has y.1 (.inl (S.free y hy hf))
end
end L3

namespace L3
open PySem PySem.Spec PyProof.Rows L2

section
variable {X : Cx}
theorem isTuple_of {h : Heap} {a : Addr} {its : Array Value} (t : IsTup h a its) : h.IsTuple a its := t
end
section
variable {X : Cx} {pos : Pos}
theorem bools_are : ∀ {bs : List Bool} {us : List Value}, Vals (bs.map V.bl) us → LSm.BoolsAre us bs
  | [], _, .nil => .nil
  | b :: bs, _, .cons r t => by
    cases r
    exact .cons b (bools_are t)
end
theorem CSc.of {X : Cx} {scope : Scope} {N' : List Str} {sub : List (Option Nat)} (sc : Scope) (NN : List Str) (e : X.env.scope = sc) (en : X.N = NN)
    (h : ((scope.names.all fun y => (y.2 != .free || sc.names.lookup y.1 == some .cell) && (y.2 != .cell) && (y.2 != .local || scope.names.lookup y.1 == some .local)) && (sub.length == N'.length) &&
      ((N'.zip sub).all fun p => match p.2 with | none => true | some i => NN[i]? == some p.1 && sc.names.lookup p.1 == some .cell && scope.names.lookup p.1 == some .free)) = true)
    (hk : scope.kind = .function) : CSc X scope N' sub := by
  rw [Bool.and_eq_true, Bool.and_eq_true] at h
  obtain ⟨⟨h1, h2⟩, h3⟩ := h
  have k1 := fun y hy => List.all_eq_true.mp h1 y hy
  refine ⟨fun y hy hf => ?_, fun y hy hc => ?_, hk, fun y hy hl => ?_, by simpa using h2, fun j y i hj hs => ?_⟩
  · have := k1 y hy
    simp only [hf, Bool.and_eq_true] at this
    have z := this.1.1
    show X.env.scope.names.lookup y.1 = _
    rw [e]; simpa using z
  · have := k1 y hy
    simp only [hc, Bool.and_eq_true] at this
    simp at this
  · have := k1 y hy
    simp only [hl, Bool.and_eq_true] at this
    simpa using this.2
  · have hm : (y, some i) ∈ N'.zip sub := by
      have : (N'.zip sub)[j]? = some (y, some i) := by
        rw [List.getElem?_zip_eq_some]; exact ⟨hj, hs⟩
      exact List.mem_of_getElem? this
    have := List.all_eq_true.mp h3 _ hm
    simp only [Bool.and_eq_true, beq_iff_eq] at this
    rw [e, en]
    exact ⟨this.1.1, this.1.2, this.2⟩
end L3

namespace L3
open PySem PySem.Spec PyProof.Rows L2
def tidyD (a : Int) (lo hi : Option Int) : Deed := if lo ≠ none ∧ lo = hi then ⟨0, lo, hi⟩ else ⟨a, lo, hi⟩
def thrO (e : Deed) (o : Option Int) (d : Option Int) : Option Int := match o with
  | none => d
  | some l => some (e.mk' l)
def joinD (d e : Deed) : Deed := tidyD (d.add + e.add) (thrO e d.lo e.lo) (thrO e d.hi e.hi)
def Deed.Bd (B : Int) (d : Deed) : Prop := (-B ≤ d.add ∧ d.add ≤ B) ∧ (∀ l, d.lo = some l → -B ≤ l ∧ l ≤ B) ∧ ∀ h, d.hi = some h → -B ≤ h ∧ h ≤ B
theorem Deed.Sm.bd {d : Deed} (h : d.Sm) : d.Bd (10 ^ 30) := by
  obtain ⟨⟨a1, a2⟩, h1, h2⟩ := h
  exact ⟨⟨by omega, by omega⟩, fun l e => by have := h1 l e; exact ⟨by have := this.1; omega, by have := this.2; omega⟩, fun l e => by have := h2 l e; exact ⟨by have := this.1; omega, by have := this.2; omega⟩⟩
end L3

namespace L3
open PySem PySem.Spec PyProof.Rows L2
theorem iteF' {c : Bool} {A B : Prop} (e : c = false) (h : B) : if c = true then A else B := by rw [e]; exact iteF h
theorem iteT' {c : Bool} {A B : Prop} (e : c = true) (h : A) : if c = true then A else B := by rw [e]; exact iteT h
theorem comp_list {K : PySem.W.Frag} {a : Addr} {xs : List V} {g : TG} {tt : TT} {te : TE} {Q : VK} {σ : L2.St} {H : Hp} (Pv : Nat → List V → L2.St → Hp → Prop) (h0 : Pv 0 [] σ H) (hl : ∀ i ys σ H, i ≤ xs.length → Pv i ys σ H → SqL K H a xs)
    (hs : ∀ i x ys σ H, xs[i]? = some x → Pv i ys σ H → g x σ H fun σ2 H3 => tt σ2 H3 fun b H4 => if b = true then te σ2 H4 fun y H5 => ys.length < sizeLine ∧ Pv (i + 1) (ys ++ [y]) σ2 H5 else Pv (i + 1) ys σ2 H4)
    (hd : ∀ ys σ H, Pv xs.length ys σ H → ∀ l, H l = none → Q (.ref l) (upd H l (.lst ys))) :
    CompW (Itl K a) σ H g tt te Q := by
  refine ⟨fun i m ys σ H => m = xs.length - i ∧ i ≤ xs.length ∧ Pv i ys σ H, ⟨xs.length, by simp, Nat.zero_le _, h0⟩, ?_⟩
  rintro i m ys σ H ⟨rfl, hi, p⟩
  have q := hl i ys σ H hi p
  by_cases hlt : i < xs.length
  · refine .inr ⟨⟨xs, xs[i], q, by simp [hlt]⟩, Pv (i + 1), fun zs σ' H' p' => ⟨xs.length - (i + 1), by omega, rfl, hlt, p'⟩, fun x H' y => ?_⟩
    obtain ⟨e, y⟩ := y
    subst e
    exact hs i x ys σ _ (y xs q) p
  · have e : i = xs.length := by omega
    subst e
    exact .inl ⟨⟨xs, q, Nat.le_refl _⟩, hd ys σ H p⟩
theorem ix_tupK {X : Cx} {K : PySem.W.Frag} (h : X.K = K) : IxR X (rIxT K) := by subst h; exact ix_tup
theorem Deed.Bd.mono {d : Deed} {B C : Int} (b : d.Bd B) (h : B ≤ C) : d.Bd C := by
  obtain ⟨⟨b1, b2⟩, b3, b4⟩ := b
  exact ⟨⟨by omega, by omega⟩, fun l e => by have := b3 l e; omega, fun l e => by have := b4 l e; omega⟩
end L3

namespace L3
open PySem PySem.Spec PyProof.Rows L2
end L3

namespace L3
open PySem PySem.Spec PyProof.Rows L2
section
variable {X : Cx}
end
theorem flat_ints {xs : List Int} : (xs.map V.int).all flatV = true := by
  rw [List.all_eq_true]; intro x hx; obtain ⟨i, _, rfl⟩ := List.mem_map.mp hx; rfl
theorem Grow.sqL {H H' : Hp} (g : Grow [] H H') {K : PySem.W.Frag} {a : Addr} {xs : List V} (h : SqL K H a xs) : SqL K H' a xs := by
  rcases h with (h | ⟨o, h⟩) | h
  · exact .inl (.inl (g.keep _ _ (by simp) h))
  · exact .inl (.inr ⟨o, g.frz _ _ _ h⟩)
  · exact .inr h
section
variable {K : PySem.W.Frag} {a : Addr} {xs : List V} {n : Nat} {tt : TT} {te : TE} {Q : VK} {σ : L2.St} {H : Hp}
end
theorem nd {d e : Deed} (h : d = e) : (!decide (d = e)) = false := by rw [decide_eq_true h]; rfl
end L3

namespace L3
open PySem PySem.Spec PyProof.Rows L2
mutual
inductive Dat (K : PySem.W.Frag) (H : Hp) : V → PyData → Prop
  | non : Dat K H .non .none
  | bl (b : Bool) : Dat K H (.bl b) (.bool b)
  | int (i : Int) : Dat K H (.int i) (.int i)
  | tup {a : Addr} {xs : List V} {ds : List PyData} : SqT K H a xs → DatAll K H xs ds → Dat K H (.ref a) (.tuple ds)
  | lst {a : Addr} {xs : List V} {ds : List PyData} : SqL K H a xs → DatAll K H xs ds → Dat K H (.ref a) (.list ds)
inductive DatAll (K : PySem.W.Frag) (H : Hp) : List V → List PyData → Prop
  | nil : DatAll K H [] []
  | cons {x : V} {xs : List V} {d : PyData} {ds : List PyData} : Dat K H x d → DatAll K H xs ds → DatAll K H (x :: xs) (d :: ds)
end
section
variable {X : Cx} {pins : List (Addr × Obj)} {σ : L2.St} {H : Hp} {s : Shared}
mutual
theorem Dat.reads (I : Inv X pins σ H s) : ∀ {x : V} {d : PyData} {u : Value}, Dat X.K H x d → RelV x u → ∃ as, Reads s.heap u d as
  | _, _, u, .non, r => by
    cases (show u = Value.none from r)
    exact ⟨_, .none⟩
  | _, _, u, .bl b, r => by
    cases (show u = Value.bool b from r)
    exact ⟨_, .bool b⟩
  | _, _, u, .int i, r => by
    obtain ⟨t, rfl⟩ := r
    exact ⟨_, .int i t⟩
  | _, _, u, .tup (a := a) hs hd, r => by
    cases (show u = Value.ref a from r)
    obtain ⟨its, r1, ⟨o, e1, e2, n, e3⟩, _⟩ := I.tuple hs
    obtain ⟨as, q⟩ := DatAll.reads I hd r1
    exact ⟨_, .tuple e1 e2 e3 q⟩
  | _, _, u, .lst (a := a) hs hd, r => by
    cases (show u = Value.ref a from r)
    obtain ⟨its, r1, ⟨o, n, e1, e2, _, e3⟩, _⟩ := I.list hs
    obtain ⟨as, q⟩ := DatAll.reads I hd r1
    exact ⟨_, .list e1 e2 e3 q⟩
theorem DatAll.reads (I : Inv X pins σ H s) : ∀ {xs : List V} {ds : List PyData} {us : List Value}, DatAll X.K H xs ds → Vals xs us → ∃ as, ReadsAll s.heap us ds as
  | _, _, _, .nil, .nil => ⟨_, .nil⟩
  | _, _, _, .cons h t, .cons r rs => by
    obtain ⟨as, q⟩ := Dat.reads I h r
    obtain ⟨bs, q2⟩ := DatAll.reads I t rs
    exact ⟨_, .cons q q2⟩
end
end
mutual
/-- a bound of the text's length -/
def wtD : PyData → Nat
  | .list xs | .tuple xs => wtAll xs + 3
  | .int _ => 1921
  | .none | .bool _ => 5
  | _ => 20000000
def wtAll : List PyData → Nat
  | [] => 0
  | x :: xs => wtD x + 2 + wtAll xs
end
mutual
theorem shown_wt : ∀ {d : PyData}, d.showable = true → d.hasDict = false → wtD d ≤ 16777216 → d.shown.length ≤ wtD d
  | .none, _, _, _ => by decide
  | .bool b, _, _, _ => by cases b <;> decide
  | .int i, h, _, _ => int_text_len_1921 (of_decide_eq_true h)
  | .str _, _, _, z => absurd (show 20000000 ≤ 16777216 from z) (by decide)
  | .list xs, h, h2, z => by
    have z' : wtAll xs + 3 ≤ 16777216 := z
    have q := shown_wtAll (xs := xs) h h2 (by omega)
    have l := listText_len_le (PyData.shownAll xs)
    show (listText (PyData.shownAll xs)).length ≤ wtAll xs + 3
    omega
  | .tuple xs, h, h2, z => by
    have z' : wtAll xs + 3 ≤ 16777216 := z
    have q := shown_wtAll (xs := xs) h h2 (by omega)
    have l := tupleText_len_le (PyData.shownAll xs)
    show (tupleText (PyData.shownAll xs)).length ≤ wtAll xs + 3
    omega
  | .dict _, _, h, _ => by cases h
theorem shown_wtAll : ∀ {xs : List PyData}, PyData.showableAll xs = true → PyData.hasDictAll xs = false → wtAll xs ≤ 16777216 → ((PyData.shownAll xs).map (·.length)).sum + 2 * (PyData.shownAll xs).length ≤ wtAll xs
  | [], _, _, _ => by decide
  | x :: xs, h, h2, z => by
    have h' : (x.showable && PyData.showableAll xs) = true := h
    have h2' : (x.hasDict || PyData.hasDictAll xs) = false := h2
    rw [Bool.and_eq_true] at h'
    rw [Bool.or_eq_false_iff] at h2'
    have z' : wtD x + 2 + wtAll xs ≤ 16777216 := z
    have q1 := shown_wt (d := x) h'.1 h2'.1 (by omega)
    have q2 := shown_wtAll (xs := xs) h'.2 h2'.2 (by omega)
    show (x.shown.length :: (PyData.shownAll xs).map (·.length)).sum + 2 * ((PyData.shownAll xs).length + 1) ≤ wtD x + 2 + wtAll xs
    rw [List.sum_cons]
    omega
end
end L3

namespace L3
open PySem PySem.Spec PyProof.Rows L2
section
variable {X : Cx} {a b : Expr} {rest : List Expr} {ta tb : TE} {pos : Pos}
end
def I200 (i : Int) : Prop := -(2 ^ 300) < i ∧ i < 2 ^ 300
theorem repI2 {i : Int} (h : I200 i) : RepI i := by
  show i.natAbs.log2 < 1920
  by_cases h0 : i.natAbs = 0
  · rw [h0]; decide
  · exact Nat.lt_of_lt_of_le ((Nat.log2_lt h0).mpr (show i.natAbs < 2 ^ 300 by obtain ⟨a, b⟩ := h; omega)) (by decide)
def oD : Option Int → PyData
  | none => .none
  | some i => .int i
end L3

namespace L3
open PySem PySem.Spec PyProof.Rows L2
section
variable {K : PySem.W.Frag} {a : Addr} {xs : List V} {lo : Int} {n k : Nat} {te : TE} {Q : VK} {σ : L2.St} {H : Hp}
end
theorem Grow.fresh {m : List Addr} {H H' : Hp} (h : ∀ b ∈ m, H b = none) (g : Grow m H H') : Grow [] H H' :=
  ⟨fun b o _ q => g.keep b o (fun z => by rw [h b z] at q; cases q) q, g.tup, g.frz⟩
theorem Grow.less {m m' : List Addr} {H H' : Hp} (g : Grow m H H') (h : ∀ b ∈ m, b ∈ m' ∨ H b = none) : Grow m' H H' :=
  ⟨fun b o n q => g.keep b o (fun z => by
    rcases h b z with w | w
    · exact n w
    · rw [w] at q; cases q) q, g.tup, g.frz⟩
theorem Pot.ne {H : Hp} {a l : Addr} (p : Pot H a) (h : H l = none) : l ∉ [a] := by
  intro z
  obtain ⟨z0, z1, hz, _⟩ := p
  rw [List.mem_singleton.mp z, hz] at h
  cases h
theorem ixN_nat {n : Nat} {i : Int} (h0 : 0 ≤ i) (h : i.toNat < n) : ixN n i = some i.toNat := by
  unfold ixN; rw [if_pos h0, if_pos (by omega)]
theorem ixGet {xs : List V} {i : Int} {j : Nat} {v : V} (h : ixN xs.length i = some j) (hv : xs[j]? = some v) : atI xs i = some v := by
  unfold atI; rw [h]; exact hv
structure Ask where
  hand : Int
  box : Int
  deed : Deed
def AskAt (K : PySem.W.Frag) (H : Hp) (x : V) (k : Ask) : Prop := ∃ r rd, x = .ref r ∧ SqT K H r [.int k.hand, .int k.box, .ref rd] ∧ SqT K H rd k.deed.vs
def AllA (K : PySem.W.Frag) (H : Hp) : List V → List Ask → Prop
  | [], [] => True
  | x :: xs, k :: ks => AskAt K H x k ∧ AllA K H xs ks
  | _, _ => False
def BoardAt (K : PySem.W.Frag) (H : Hp) (x : V) (b : List Int) : Prop := ∃ r, x = .ref r ∧ SqT K H r (b.map V.int)
theorem Grow.board {m : List Addr} {H H' : Hp} (g : Grow m H H') {K : PySem.W.Frag} {x : V} {b : List Int} (h : BoardAt K H x b) : BoardAt K H' x b := by
  obtain ⟨r, e, h1⟩ := h
  exact ⟨r, e, g.sqT h1⟩
theorem AllA.len {K : PySem.W.Frag} {H : Hp} : ∀ {xs : List V} {ks : List Ask}, AllA K H xs ks → xs.length = ks.length
  | [], [], _ => rfl
  | _ :: xs, _ :: ks, ⟨_, t⟩ => congrArg (· + 1) (AllA.len t)
  | [], _ :: _, h => h.elim
  | _ :: _, [], h => h.elim
theorem AllA.get {K : PySem.W.Frag} {H : Hp} : ∀ {xs : List V} {ks : List Ask} {i : Nat} {x : V}, AllA K H xs ks → xs[i]? = some x → ∃ k, ks[i]? = some k ∧ AskAt K H x k
  | _ :: _, k :: _, 0, x, ⟨h, _⟩, e => by
    obtain rfl := Option.some.inj e
    exact ⟨k, rfl, h⟩
  | _ :: _, _ :: _, i + 1, x, ⟨_, t⟩, e => AllA.get (i := i) t e
  | [], [], i, x, _, e => by cases e
  | [], _ :: _, _, _, h, _ => h.elim
  | _ :: _, [], _, _, h, _ => h.elim
theorem AllA.snoc {K : PySem.W.Frag} {H : Hp} : ∀ {xs : List V} {ks : List Ask} {x : V} {k : Ask}, AllA K H xs ks → AskAt K H x k → AllA K H (xs ++ [x]) (ks ++ [k])
  | [], [], _, _, _, h => ⟨h, trivial⟩
  | _ :: _, _ :: _, _, _, ⟨h, t⟩, q => ⟨h, AllA.snoc t q⟩
  | [], _ :: _, _, _, h, _ => h.elim
  | _ :: _, [], _, _, h, _ => h.elim
def InB (B : Int) (xs : List Int) : Prop := ∀ v ∈ xs, -B < v ∧ v < B
def intsD (xs : List Int) : PyData := .tuple (xs.map PyData.int)
def deedD (d : Deed) : PyData := .tuple [.int d.add, oD d.lo, oD d.hi]
def Sh (d : PyData) (w n : Nat) : Prop := d.showable = true ∧ d.hasDict = false ∧ wtD d ≤ w ∧ d.depth ≤ n
theorem Sh.mono {d : PyData} {w w' n n' : Nat} (h : Sh d w n) (h1 : w ≤ w') (h2 : n ≤ n') : Sh d w' n' := ⟨h.1, h.2.1, Nat.le_trans h.2.2.1 h1, Nat.le_trans h.2.2.2 h2⟩
def ShA (ds : List PyData) (w n : Nat) : Prop := PyData.showableAll ds = true ∧ PyData.hasDictAll ds = false ∧ wtAll ds ≤ w ∧ PyData.depthAll ds ≤ n
theorem sha_nil {n : Nat} : ShA [] 0 n := ⟨rfl, rfl, Nat.le_refl _, Nat.zero_le _⟩
theorem sha_cons {d : PyData} {ds : List PyData} {w v n : Nat} (h : Sh d w n) (t : ShA ds v n) : ShA (d :: ds) (w + 2 + v) n := by
  obtain ⟨a1, a2, a3, a4⟩ := h
  obtain ⟨b1, b2, b3, b4⟩ := t
  refine ⟨?_, ?_, ?_, ?_⟩
  · show (d.showable && PyData.showableAll ds) = true
    rw [a1, b1]; rfl
  · show (d.hasDict || PyData.hasDictAll ds) = false
    rw [a2, b2]; rfl
  · show wtD d + 2 + wtAll ds ≤ _; omega
  · show max d.depth (PyData.depthAll ds) ≤ n; omega
theorem sh_tup {ds : List PyData} {w n : Nat} (h : ShA ds w n) : Sh (.tuple ds) (w + 3) (n + 1) := ⟨h.1, h.2.1, Nat.add_le_add_right h.2.2.1 3, Nat.add_le_add_right h.2.2.2 1⟩
theorem sh_int {i : Int} {n : Nat} (h : I200 i) : Sh (.int i) 1921 n := ⟨decide_eq_true (repI2 h), rfl, Nat.le_refl _, Nat.zero_le _⟩
theorem sh_oD {o : Option Int} {n : Nat} (h : ∀ i, o = some i → I200 i) : Sh (oD o) 1921 n := by
  cases o with
  | none => exact ⟨rfl, rfl, (by show (5 : Nat) ≤ 1921; decide), Nat.zero_le _⟩
  | some i => exact sh_int (h i rfl)
theorem sha_map {α : Type} {f : α → PyData} {w n : Nat} : ∀ {xs : List α}, (∀ x ∈ xs, Sh (f x) w n) → ShA (xs.map f) (xs.length * (w + 2)) n
  | [], _ => by rw [show ([] : List α).length * (w + 2) = 0 from Nat.zero_mul _]; exact sha_nil
  | x :: xs, h => by
    have z := sha_cons (h x (by simp)) (sha_map (xs := xs) fun y hy => h y (List.mem_cons_of_mem _ hy))
    rw [show (x :: xs).length * (w + 2) = w + 2 + xs.length * (w + 2) by rw [List.length_cons, Nat.add_mul, Nat.one_mul, Nat.add_comm]]
    exact z
theorem sh_ints {xs : List Int} {n : Nat} (h : InB (2 ^ 300) xs) : Sh (intsD xs) (xs.length * 1923 + 3) (n + 1) := sh_tup (sha_map fun x hx => sh_int (h x hx))
def ToldAt (K : PySem.W.Frag) (H : Hp) (x : V) (p : List Int × List Int) : Prop := ∃ r r1 r2, x = .ref r ∧ SqT K H r [.ref r1, .ref r2] ∧ SqT K H r1 (p.1.map V.int) ∧ SqT K H r2 (p.2.map V.int)
theorem Grow.told {m : List Addr} {H H' : Hp} (g : Grow m H H') {K : PySem.W.Frag} {x : V} {p : List Int × List Int} (h : ToldAt K H x p) : ToldAt K H' x p := by
  obtain ⟨r, r1, r2, e, h0, h1, h2⟩ := h
  exact ⟨r, r1, r2, e, g.sqT h0, g.sqT h1, g.sqT h2⟩
theorem InB.mono {B C : Int} {xs : List Int} (h : InB B xs) (hC : B ≤ C) : InB C xs := fun v hv => by have := h v hv; omega
end L3

namespace L3
open PySem PySem.Spec PyProof.Rows L2
theorem fnok_vac {P : Program} {w : World} {K : PySem.W.Frag} {mg : Str → Option Value} {base : Heap} {CX : CXT} {k : Nat} {f : Addr} {fd : FuncData} {ps : List Str} {sp : Sp} (h : ∀ vs H Q E, ¬ sp vs H Q E) : FnOk P w K mg base CX k f fd ps sp :=
  ⟨fun vs H Q E z => (h vs H Q E z).elim, by
    intros
    first
      | exact (h _ _ _ _ (by assumption)).elim⟩
inductive Tr where
  | leaf (n : Int)
  | node (l r : Tr)
def Tr.count : Tr → Int
  | .leaf _ => 1
  | .node l r => l.count + r.count
def Tr.ht : Tr → Nat
  | .leaf _ => 0
  | .node l r => max l.ht r.ht + 1
def trD : Tr → PyData
  | .leaf n => .int n
  | .node l r => .tuple [trD l, trD r]
def Tr.Nums (t : Tr) : Prop := match t with
  | .leaf n => I200 n
  | .node l r => l.Nums ∧ r.Nums
def Tr.wt : Tr → Nat
  | .leaf _ => 1
  | .node l r => l.wt + r.wt + 1
theorem sh_tree : ∀ {t : Tr}, t.Nums → Sh (trD t) (t.wt * 1928) t.ht
  | .leaf n, h => (sh_int h).mono (by show 1921 ≤ 1 * 1928; decide) (Nat.le_refl 0)
  | .node l r, h => by
    have a := (sh_tree (t := l) h.1).mono (Nat.le_refl _) (show l.ht ≤ max l.ht r.ht by omega)
    have b := (sh_tree (t := r) h.2).mono (Nat.le_refl _) (show r.ht ≤ max l.ht r.ht by omega)
    have z := sh_tup (sha_cons a (sha_cons b sha_nil))
    refine z.mono ?_ (Nat.le_refl (max l.ht r.ht + 1))
    show l.wt * 1928 + 2 + (r.wt * 1928 + 2 + 0) + 3 ≤ (l.wt + r.wt + 1) * 1928
    omega
end L3

namespace L3
open PySem PySem.Spec PyProof.Rows L2
def AllR {α : Type} (R : V → α → Prop) : List V → List α → Prop
  | [], [] => True
  | x :: xs, k :: ks => R x k ∧ AllR R xs ks
  | _, _ => False
section
variable {α : Type} {R S : V → α → Prop}
theorem AllR.imp (h : ∀ x k, R x k → S x k) : ∀ {xs : List V} {ks : List α}, AllR R xs ks → AllR S xs ks
  | [], [], _ => trivial
  | _ :: _, _ :: _, ⟨a, t⟩ => ⟨h _ _ a, AllR.imp h t⟩
  | [], _ :: _, z => z.elim
  | _ :: _, [], z => z.elim
theorem AllR.len : ∀ {xs : List V} {ks : List α}, AllR R xs ks → xs.length = ks.length
  | [], [], _ => rfl
  | _ :: xs, _ :: ks, ⟨_, t⟩ => congrArg (· + 1) (AllR.len t)
  | [], _ :: _, h => h.elim
  | _ :: _, [], h => h.elim
theorem AllR.get : ∀ {xs : List V} {ks : List α} {i : Nat} {x : V}, AllR R xs ks → xs[i]? = some x → ∃ k, ks[i]? = some k ∧ R x k
  | _ :: _, k :: _, 0, x, ⟨h, _⟩, e => by
    obtain rfl := Option.some.inj e
    exact ⟨k, rfl, h⟩
  | _ :: _, _ :: _, i + 1, x, ⟨_, t⟩, e => AllR.get (i := i) t e
  | [], [], i, x, _, e => by cases e
  | [], _ :: _, _, _, h, _ => h.elim
  | _ :: _, [], _, _, h, _ => h.elim
theorem AllR.getR : ∀ {xs : List V} {ks : List α} {i : Nat} {k : α}, AllR R xs ks → ks[i]? = some k → ∃ x, xs[i]? = some x ∧ R x k
  | x :: _, _ :: _, 0, k, ⟨h, _⟩, e => by
    obtain rfl := Option.some.inj e
    exact ⟨x, rfl, h⟩
  | _ :: _, _ :: _, i + 1, k, ⟨_, t⟩, e => AllR.getR (i := i) t e
  | [], [], i, k, _, e => by cases e
  | [], _ :: _, _, _, h, _ => h.elim
  | _ :: _, [], _, _, h, _ => h.elim
theorem AllR.app : ∀ {xs ys : List V} {ks js : List α}, AllR R xs ks → AllR R ys js → AllR R (xs ++ ys) (ks ++ js)
  | [], _, [], _, _, h => h
  | _ :: _, _, _ :: _, _, ⟨h, t⟩, q => ⟨h, AllR.app t q⟩
  | [], _, _ :: _, _, h, _ => h.elim
  | _ :: _, _, [], _, h, _ => h.elim
theorem AllR.one {x : V} {k : α} (h : R x k) : AllR R [x] [k] := ⟨h, trivial⟩
theorem AllR.take : ∀ {xs : List V} {ks : List α} {n : Nat}, AllR R xs ks → AllR R (xs.take n) (ks.take n)
  | [], [], n, _ => by rw [List.take_nil, List.take_nil]; trivial
  | _ :: _, _ :: _, 0, _ => trivial
  | _ :: _, _ :: _, n + 1, ⟨h, t⟩ => ⟨h, AllR.take t⟩
  | [], _ :: _, _, h => h.elim
  | _ :: _, [], _, h => h.elim
end
def Ordd : Tr → Int → Prop
  | .leaf n, f => n = f
  | .node l r, f => Ordd l f ∧ Ordd r (f + l.count)
def look : Deed := ⟨0, none, none⟩
def AllOk (ds : List Deed) : Prop := ∀ d ∈ ds, d.Ok
def runD (ds : List Deed) : Deed := ds.foldl joinD look
def seg (ds : List Deed) (f n : Int) : List Deed := (ds.drop f.toNat).take n.toNat
theorem sh_deedB {d : Deed} {n : Nat} (h : d.Bd (2 ^ 299)) : Sh (deedD d) 5772 (n + 1) := by
  have q : ∀ i, -(2 ^ 299) ≤ i → i ≤ 2 ^ 299 → I200 i := fun i a b => by
    have e : (2 : Int) ^ 300 = 2 * 2 ^ 299 := by rw [Int.pow_succ, Int.mul_comm]
    have p : (0 : Int) < 2 ^ 299 := Int.pow_pos (by decide)
    exact ⟨by rw [e]; omega, by rw [e]; omega⟩
  exact sh_tup (sha_cons (sh_int (q _ h.1.1 h.1.2)) (sha_cons (sh_oD fun i e => q i (h.2.1 i e).1 (h.2.1 i e).2) (sha_cons (sh_oD fun i e => q i (h.2.2 i e).1 (h.2.2 i e).2) sha_nil)))
end L3

namespace L3
open PySem PySem.Spec PyProof.Rows L2
theorem wt_count : ∀ t : Tr, (t.wt : Int) = 2 * t.count - 1
  | .leaf _ => rfl
  | .node l r => by
    have a := wt_count l
    have b := wt_count r
    show ((l.wt + r.wt + 1 : Nat) : Int) = 2 * (l.count + r.count) - 1
    omega
theorem AllR.drop {α : Type} {R : V → α → Prop} : ∀ {xs : List V} {ks : List α} {n : Nat}, AllR R xs ks → AllR R (xs.drop n) (ks.drop n)
  | [], [], n, _ => by rw [List.drop_nil, List.drop_nil]; trivial
  | _ :: _, _ :: _, 0, h => h
  | _ :: _, _ :: _, n + 1, ⟨h, t⟩ => AllR.drop (n := n) t
  | [], _ :: _, _, h => h.elim
  | _ :: _, [], _, h => h.elim
def TOk (m : Int) (t : Tr) : Prop := Ordd t 0 ∧ t.count = m ∧ t.ht < 41 ∧ t.Nums
theorem TOk.sh {m : Int} {t : Tr} (h : TOk m t) (hm : m ≤ 40) : Sh (trD t) 154240 40 := by
  obtain ⟨_, h1, h2, h3⟩ := h
  have w := wt_count t
  exact (sh_tree h3).mono (by have : t.wt ≤ 80 := by omega
                              have := Nat.mul_le_mul_right 1928 this
                              omega) (by omega)
end L3

namespace L3
open PySem PySem.Spec PyProof.Rows L2
def sp5 (b : V → V → V → V → V → Hp → VK → Prop) : Sp := fun vs H Q _ => ∃ x y z u w, vs = [x, y, z, u, w] ∧ b x y z u w H Q
theorem sp5_len {b : V → V → V → V → V → Hp → VK → Prop} {p q r s t : Str} : ∀ vs H Q E, sp5 b vs H Q E → vs.length = [p, q, r, s, t].length := fun vs H Q E h => by
  obtain ⟨x, y, z, u, w, rfl, _⟩ := h; rfl
def RowsAt (K : PySem.W.Frag) (H : Hp) (x : V) (rows : List (List Int)) : Prop := ∃ r xs, x = .ref r ∧ SqT K H r xs ∧ AllR (BoardAt K H) xs rows
theorem Grow.boardsR {m : List Addr} {H H' : Hp} (g : Grow m H H') {K : PySem.W.Frag} {xs : List V} {rows : List (List Int)} (h : AllR (BoardAt K H) xs rows) : AllR (BoardAt K H') xs rows := h.imp fun _ _ z => g.board z
theorem Grow.rows {m : List Addr} {H H' : Hp} (g : Grow m H H') {K : PySem.W.Frag} {x : V} {rows : List (List Int)} (h : RowsAt K H x rows) : RowsAt K H' x rows := by
  obtain ⟨r, xs, e, h1, h2⟩ := h
  exact ⟨r, xs, e, g.sqT h1, g.boardsR h2⟩
def Rng (m : Int) (xs : List Int) : Prop := ∀ v ∈ xs, 0 ≤ v ∧ v < m
def TabOk (R M : Nat) (rows : List (List Int)) : Prop := rows.length = R ∧ ∀ row ∈ rows, row.length = M ∧ Rng M row
structure Fd (R : Nat) (tab : List (List Int)) (ns : List Int) : Prop where
  tab : TabOk R R tab
  ns : Rng R ns
end L3

namespace L3
open PySem PySem.Spec PyProof.Rows L2
section
variable {prog : Program} {w : World} {A : Around} {E : Value → Shared → Prop} {s : Shared}
theorem nx_tup_item {jt t : Addr} {i : Nat} {vs : Array Value} {v : Value} {Q : Value → Shared → Prop} (hit : s.heap.IsTupleIter jt t i) (ht : s.heap.IsTuple t vs) (hv : vs[i]? = some v)
    (hQ : ∀ h', h'.IsTupleIter jt t (i + 1) → Heap.SameBut jt s.heap h' → Q v { s with heap := h' }) : wpAny (model prog w) A (Builtin.SmallTypes.nextOf (.ref jt)) Q E s := by
  obtain ⟨oj, hoj, cj, dj⟩ := id hit
  obtain ⟨ot, hot, _, nt, dt⟩ := ht
  unfold Builtin.SmallTypes.nextOf
  refine wpAny_bind (wpAny_callSpecial?_slot (name := Str.ofString "__next__") hit.typeIs F.slot_tuple_iterator_next (wpAny_call_entry F.slot_tuple_iterator_next hit.typeIs F.entry_tuple_iterator_next ?_ (F.args_tuple_iterator_next_1 _)))
  show wpAny _ _ (field (.ref jt) 0 >>= _) _ _ s
  refine wpAny_bind (wpAny_field hoj dj (x := .ref t) rfl ?_); show wpAny _ _ (if (Value.ref t == Value.none) = true then _ else _) _ _ s
  rw [if_neg (show ¬ ((Value.ref t == Value.none) = true) by exact Bool.false_ne_true)]; show wpAny _ _ (field (.ref jt) 1 >>= _) _ _ s
  refine wpAny_bind (wpAny_field hoj dj (x := .int i 0) rfl ?_); show wpAny _ _ (seqItems? (.ref t) >>= _) _ _ s
  refine wpAny_bind (wpAny_seqItems hot dt ?_); simp only [Int.toNat_natCast, hv]
  refine wpAny_bind (wpAny_setField hoj dj (by simp) (wpAny_pure ⟨v, rfl, wpAny_pure (hQ _ ⟨_, Heap.get?_update_self _ hoj (Obj.isFreed_of_fields (Obj.data_mapFields dj _)), (Obj.cls_mapFields ..).trans cj, by rw [Obj.data_mapFields dj]; simp [rawInt]⟩ (Heap.SameBut.update ..))⟩))
theorem nx_tup_end {jt t : Addr} {i : Nat} {vs : Array Value} {Q : Value → Shared → Prop} (hh : A.handled = none) (hit : s.heap.IsTupleIter jt t i) (ht : s.heap.IsTuple t vs) (hv : vs[i]? = none)
    (hE : ∀ h' e, Heap.ExtBut jt s.heap h' → (∃ o, h'.get? e = some o ∧ o.cls = .type "StopIteration") → E (.ref e) { s with heap := h' }) : wpAny (model prog w) A (Builtin.SmallTypes.nextOf (.ref jt)) Q E s := by
  obtain ⟨oj, hoj, cj, dj⟩ := id hit
  obtain ⟨ot, hot, _, nt, dt⟩ := ht
  unfold Builtin.SmallTypes.nextOf
  refine wpAny_bind (wpAny_callSpecial?_slot (name := Str.ofString "__next__") hit.typeIs F.slot_tuple_iterator_next (wpAny_call_entry F.slot_tuple_iterator_next hit.typeIs F.entry_tuple_iterator_next ?_ (F.args_tuple_iterator_next_1 _)))
  show wpAny _ _ (field (.ref jt) 0 >>= _) _ _ s
  refine wpAny_bind (wpAny_field hoj dj (x := .ref t) rfl ?_); show wpAny _ _ (if (Value.ref t == Value.none) = true then _ else _) _ _ s
  rw [if_neg (show ¬ ((Value.ref t == Value.none) = true) by exact Bool.false_ne_true)]; show wpAny _ _ (field (.ref jt) 1 >>= _) _ _ s
  refine wpAny_bind (wpAny_field hoj dj (x := .int i 0) rfl ?_); show wpAny _ _ (seqItems? (.ref t) >>= _) _ _ s
  refine wpAny_bind (wpAny_seqItems hot dt ?_); simp only [Int.toNat_natCast, hv]
  refine wpAny_bind (wpAny_rule (wpAny_bind (wpAny_setField hoj dj (by simp) ?_))); show wpAny _ _ (newExc (.type "StopIteration") [] >>= _) _ _ _
  refine wpAny_bind ?_; simp only [newExc, newTuple]
  refine wpAny_bind (wpAny_newObj_type ?_ (by size_fits)); refine wpAny_bind (m := firstArgMember _ _) (wpAny_of_eq (a := Value.none) (by first | rfl | (simp only [firstArgMember]; rfl)) ?_)
  refine wpAny_newObj_type ?_ (by size_fits); simp only [raiseNew]
  refine wpAny_bind (wpAny_handled ?_); (first | rw [show A.in1.handled = none from hh] | rw [hh])
  exact wpAny_bind (wpAny_pure (wpAny_throw (hE _ _ (((Heap.SameBut.update ..).extBut.push _).push _) ⟨_, Heap.get?_push_size _ rfl, rfl⟩)))
end
theorem draws_tup {prog : Program} {w : World} {A : Around} (hh : A.handled = none) (jt t : Addr) (hne : t ≠ jt) (vs : Array Value) :
    Draws prog w A jt [jt, t] vs.size (fun i v => vs[i]? = some v) (fun i h => h.IsTupleIter jt t i ∧ h.IsTuple t vs) where
  live := fun _ _ st => let ⟨o, ho, _⟩ := st.1; ⟨o, ho⟩
  frame := fun _ _ _ st hk => ⟨st.1.at (hk jt (by simp)), st.2.at (hk t (by simp))⟩
  item := fun i s Q E hi st hQ => nx_tup_item st.1 st.2 (v := vs[i]) (by simp [hi]) fun h' hit' hs' => hQ _ h' s.toks (by simp [hi]) ⟨hit', st.2.extBut hs'.extBut hne⟩ hs'
  done := fun s Q E st hE => nx_tup_end hh st.1 st.2 (by simp) hE
theorem draws_end {prog : Program} {w : World} {A : Around} (hh : A.handled = none) (jt t : Addr) (vs : Array Value) {i : Nat} (hv : vs[i]? = none) :
    Draws prog w A jt [jt, t] i (fun _ _ => True) (fun j h => j = i ∧ h.IsTupleIter jt t i ∧ h.IsTuple t vs) where
  live := fun _ _ st => let ⟨o, ho, _⟩ := st.2.1; ⟨o, ho⟩
  frame := fun _ _ _ st hk => ⟨st.1, st.2.1.at (hk jt (by simp)), st.2.2.at (hk t (by simp))⟩
  item := fun j s Q E hj st hQ => absurd st.1 (Nat.ne_of_lt hj)
  done := fun s Q E st hE => nx_tup_end hh st.2.1 st.2.2 hv hE
section
variable {prog : Program} {w : World} {A : Around} {E : Value → Shared → Prop} {s : Shared}
open AutoSeq1 (wpAny_loadPart')
end
section
variable {X : Cx} {pins : List (Addr × Obj)} {σ : L2.St} {H : Hp} {s : Shared} {h' : Heap}
theorem turnedL {fp : List Addr} {t' : Nat} (I : Inv X pins σ H s) (k : ∀ b o, b ∉ fp → s.heap.get? b = some o → h'.get? b = some o) (ff : ∀ b ∈ fp, FpOk X pins H b) : Inv X pins σ H { s with heap := h', toks := t' } := by
  have nit : ∀ b u, H b = some u → b ∉ fp := fun b u e z => by rw [(ff b z).1] at e; cases e
  refine I.step (g' := s.gens) (d' := s.drawn) (ch := fp) (fun b hb => ?_) (fun b o _ _ hc e _ => k b o hc e) (fun b o _ _ hc e _ => ⟨o.slots, k b o hc e⟩) (fun _ _ _ _ n => n) (fun b o hc e => ⟨o, k b o hc e⟩) (fun _ _ e => e) (fun _ _ _ e => e) (fun b ps e => ⟨#[], by rw [e]; simp⟩) (fun m hm => ?_) (fun b u e => ?_) I.bare
  · obtain ⟨_, f1, _, f3, f4, f5⟩ := ff b hb
    exact ⟨f3, f1, f4, f5⟩
  · obtain ⟨o, es, ep, ho, r⟩ := hm
    exact ⟨o, es, ep, k _ o (fun z => (ff _ z).2.1 rfl) ho, r⟩
  · refine (I.hok b u e).stay (fun c v hc q => k c v ?_ q) (fun _ q => q) fun _ _ q => q
    rcases hc with z | z
    · rw [z]; exact nit b u e
    · exact nit c _ z
theorem turnLaid {fp : List Addr} {T : Addr} {o : HO} {t' : Nat} (I : Inv X pins σ H s) (k : ∀ b o, b ∉ fp → s.heap.get? b = some o → h'.get? b = some o) (ff : ∀ b ∈ fp, FpOk X pins H b) (hT : s.heap.objs.size ≤ T)
    (new : ObjOk X.prog X.w (upd H T o) h' T o) : Inv X pins σ (upd H T o) { s with heap := h', toks := t' } := by
  have hn : H T = none := I.hok.fresh hT
  have I1 : Inv X pins σ H { s with heap := h', toks := t' } := turnedL I k ff
  have hok : HOk X.prog X.w (upd H T o) h' := HOk.track I1.hok hn new
  refine I.step (g' := s.gens) (d' := s.drawn) (ch := fp) (fun b hb => ?_) (fun b o _ _ hc e _ => k b o hc e) (fun b o _ _ hc e _ => ⟨o.slots, k b o hc e⟩) (fun b u _ e n => by rw [upd_ne (Nat.ne_of_lt (Nat.lt_of_lt_of_le (Heap.lt_size e) hT))]; exact n) (fun b o hc e => ⟨o, k b o hc e⟩)
    (fun b xs e => by rw [upd_ne (ne_of_none e hn)]; exact e) (fun b u xs e => by rw [upd_ne (ne_of_none e hn)]; exact e) (fun b ps e => ⟨#[], by rw [upd_ne (ne_of_none e hn), e]; simp⟩) (fun m hm => ?_) hok I.bare
  · obtain ⟨_, f1, _, f3, f4, f5⟩ := ff b hb
    exact ⟨f3, f1, f4, f5⟩
  · obtain ⟨o, es, ep, ho, r⟩ := hm
    exact ⟨o, es, ep, k _ o (fun z => (ff _ z).2.1 rfl) ho, r⟩
end
section
variable {X : Cx} {elts : List Expr} {kt : Nat} {pt : Pos}
end
end L3

namespace L3
open PySem PySem.Spec PyProof.Rows L2
theorem getDd {ds : List Deed} {i : Nat} (h : i < ds.length) : ds[i]? = some (ds.getD i look) := by
  rw [List.getD_eq_getElem?_getD, List.getElem?_eq_getElem h]; rfl
def atBox (j : Int) (ks : List Ask) : List Deed := (ks.filter fun k => decide (k.box = j)).map Ask.deed
structure GInv (b : List Int) (ks : List Ask) (g : List Deed × List Deed) (p : List Int × List Int) : Prop where
  l1 : g.1.length = b.length
  l2 : g.2.length = ks.length
  p1 : p.1.length = ks.length
  p2 : p.2.length = b.length
  bd1 : ∀ d ∈ g.1, d.Ok ∧ d.Bd (ks.length * 10 ^ 30)
  bd2 : ∀ d ∈ g.2, d.Ok ∧ d.Bd (ks.length * 10 ^ 30)
  run : ∀ j : Nat, j < b.length → g.1.getD j look = runD (atBox j ks)
  val : ∀ j : Nat, j < b.length → p.2.getD j 0 = (g.1.getD j look).mk' (b.getD j 0)
  ans : ∀ i k, ks[i]? = some k → p.1.getD i 0 = (g.2.getD i look).mk' (b.getD k.box.toNat 0)
theorem AllR.set {α : Type} {R : V → α → Prop} {x : V} {k : α} (h : R x k) : ∀ {xs : List V} {ks : List α} {n : Nat}, AllR R xs ks → AllR R (xs.set n x) (ks.set n k)
  | [], [], n, _ => by cases n <;> trivial
  | _ :: _, _ :: _, 0, ⟨_, t⟩ => ⟨h, t⟩
  | _ :: _, _ :: _, n + 1, ⟨a, t⟩ => ⟨a, AllR.set h t⟩
  | [], _ :: _, _, z => z.elim
  | _ :: _, [], _, z => z.elim
section
variable {K : PySem.W.Frag} {a : Addr} {xs : List V} {k : Nat} {tt : TT} {te : TE} {Q : VK} {σ : L2.St} {H : Hp}
end
section
variable {K : PySem.W.Frag} {a : Addr} {xs : List V} {k : Nat} {tt : TT} {te : TE} {Q : VK} {σ : L2.St} {H : Hp}
end
end L3

namespace L3
open PySem PySem.Spec PyProof.Rows L2
def figI (k st l : Int) : Int := Builtin.bitAnd (l / 2 ^ (k - st).toNat) 1
def wfI (k st l w : Int) : Int := Builtin.bitXor l (Builtin.bitXor (figI k st l) w * 2 ^ (k - st).toNat)
def swI (k st l : Int) : Int := Builtin.bitOr (l / 2 ^ (k - st + 1).toNat * 2 ^ (k - st).toNat) (Builtin.bitAnd l (1 * 2 ^ (k - st).toNat - 1))
def figsL (k n : Int) : List Int := (List.range k.toNat).map fun i : Nat => Builtin.bitAnd (n / 2 ^ (k - 1 - (0 + (i : Int))).toNat) 1
def numL (xs : List Int) : Int := xs.foldl (fun f o => 2 * f + o) 0
def lineL (k h g : Int) (n : Nat) : Int := numL ((figsL k g).take n ++ (figsL k h).drop n)
def numsL (k l : Int) (st : Nat) : Int := numL ((figsL k l).take (st - 1) ++ (figsL k l).drop st)
end L3

namespace L3
open PySem PySem.Spec PyProof.Rows L2
section
variable {X : Cx}
theorem call_anyB (hcalm : X.calm = true) : CallR X (.builtin "any") (fun xs H Q => ∃ (l : Addr) (bs : List Bool), xs = [.ref l] ∧ SqL X.K H l (bs.map V.bl) ∧ Q (.bl (bs.any id)) H) := by
  intro pins s σ H xs us Q I r h
  obtain ⟨l, bs, rfl, hl, q⟩ := h
  obtain ⟨u, rfl, rx⟩ := vals1 r
  cases (show u = Value.ref l from rx)
  obtain ⟨vs, rv, pl, _⟩ := I.list hl
  have hl' : s.heap.IsList l vs.toArray := pl.isList
  have hb : LSm.BoolsAre vs bs := bools_are rv
  have hlt : l < s.heap.objs.size := by obtain ⟨_, e, _⟩ := hl'; exact Heap.lt_size e
  refine call_any_walk (wpAny_pyIter_list hl' ?_)
  refine ⟨s.heap.objs.size, [s.heap.objs.size, l], [s.heap.objs.size], vs.toArray.size, _, _, fun i => (bs[i]?).getD true, rfl, Walks.list (A := X.A.in1) (I.ok.hd hcalm) _ l (Nat.ne_of_lt hlt) vs.toArray,
    ⟨⟨_, Heap.get?_push_size _ rfl, rfl, rfl⟩, hl'.push _⟩, fun i v s' Q' E' hP hQ => ?_, fun h' tk hk => ?_⟩
  · obtain ⟨b, e, rfl⟩ := hb.get i v (by simpa using hP)
    simp only [e, Option.getD_some] at hQ
    exact wpAny_truthy_bool hQ
  · have e : ((List.range vs.toArray.size).any fun i => (bs[i]?).getD true) = bs.any id := by
      have hlen : bs.length = vs.length := by rw [← rv.length, List.length_map]
      rw [List.size_toArray, ← hlen, Bool.eq_iff_iff, List.any_eq_true, List.any_eq_true]
      constructor
      · rintro ⟨i, hi, z⟩
        have hi' := List.mem_range.mp hi
        exact ⟨bs[i], List.getElem_mem hi', by simpa [List.getElem?_eq_getElem hi'] using z⟩
      · rintro ⟨b, hb', z⟩
        obtain ⟨i, hi, rfl⟩ := List.getElem_of_mem hb'
        exact ⟨i, List.mem_range.mpr hi, by simpa [List.getElem?_eq_getElem hi] using z⟩
    rw [e]
    exact ⟨.bl (bs.any id), H, I.kept (t' := tk) (h' := h') (LSm.kept_iter hk), rfl, q⟩
end
theorem mulOkL {i j : Int} (h : -(2 ^ 60) < i ∧ i < 2 ^ 60) : IntMulOk i j := PySem.IntMulOk.of_left (Nat.le_trans ((PySem.intBits_le_iff (m := 60)).mpr (by obtain ⟨a, b⟩ := h; omega)) (by decide))
theorem shlOne {k : Nat} (h : k ≤ 4) : CPow 1 (k : Int) := ⟨by omega, by omega, by decide⟩
theorem pow16 {k : Nat} (h : k ≤ 4) : (2 : Nat) ^ k ≤ 16 := Nat.le_trans (Nat.pow_le_pow_right (by decide) h) (by decide)
theorem one_shl {k : Nat} : (1 : Int) * 2 ^ ((k : Int)).toNat = ((2 ^ k : Nat) : Int) := by rw [Int.toNat_natCast, Int.one_mul, Int.natCast_pow]; rfl
end L3

namespace L3
open PySem PySem.Spec PyProof.Rows L2
section
variable {prog : Program} {w : World} {A : Around} {R : Result → Shared → Prop} {s : Shared}
variable {elt t0 i0 t1 i1 : Expr} {ifs : List Expr} {scope : Scope} {pos : Pos} {it acc : Value} {env : Env}
end
section
variable {Y : Cx} {pins : List (Addr × Obj)} {D it2 : Addr} {fp2 : List Addr} {tn2 : Nat → Heap → Prop} {J2 : It} {y : Str} {py pos : Pos} {elt t0 i0 i1 : Expr} {ifs : List Expr} {scope : Scope} {g1 : TG} {tt : TT} {te : TE} {Out : List V → L2.St → Hp → Prop} {W : Nat → Nat → List V → L2.St → Hp → Prop} {R : Result → Shared → Prop}
end
section
variable {X : Cx} {pins : List (Addr × Obj)} {σ : L2.St} {H2 : Hp} {s₂ : Shared} {it : Addr} {fp : List Addr} {tn : Nat → Heap → Prop} {J : It} {scope : Scope} {cl : List (Str × Addr)} {N' : List Str} {sub : List (Option Nat)}
end
end L3

namespace L3
open PySem PySem.Spec PyProof.Rows L2
section
variable {X : Cx} {pins : List (Addr × Obj)} {σ : L2.St} {H2 : Hp} {s₂ : Shared} {it : Addr} {fp : List Addr} {tn : Nat → Heap → Prop} {J : It} {scope : Scope} {cl : List (Str × Addr)} {N' : List Str} {sub : List (Option Nat)}
end
section
variable {X : Cx} {scope : Scope} {N' : List Str} {sub : List (Option Nat)} {x y : Str} {px py pos : Pos} {elt i0 i1 : Expr} {ifs : List Expr} {wi wi1 : TI} {g0 g1 : TG} {tt : TT} {te : TE}
end
end L3

namespace L3
open PySem PySem.Spec PyProof.Rows L2
section
variable {X : Cx}
end
end L3

namespace L3
open PySem PySem.Spec PyProof.Rows L2
theorem nv {i j : Int} (h : i ≠ j) : decide (V.int i = V.int j) = false := decide_eq_false fun z => h (V.int.inj z)
theorem Deed.Sm.bd2 {d : Deed} (h : d.Sm) : d.Bd (2 * 10 ^ 30) := h.bd.mono (by decide)
end L3

namespace L3
open PySem PySem.Spec PyProof.Rows L2
section
variable {X : Cx} {pins : List (Addr × Obj)} {σ : L2.St} {H2 : Hp} {s₂ : Shared} {it : Addr} {fp : List Addr} {tn : Nat → Heap → Prop} {J : It} {scope : Scope} {cl : List (Str × Addr)} {N' : List Str} {sub : List (Option Nat)}
theorem comp_runT {C D : Addr} {s₀ : Shared} {tg : Expr} {pos : Pos} {elt iter : Expr} {ifs : List Expr} {g : TG} {tt : TT} {te : TE} {Q : VK} {RR : Value → Addr → Result → Shared → Prop} {W : Nat → Nat → List V → L2.St → Hp → Prop}
    (I : Inv X pins σ H2 s₂) (hcalm : X.calm = true) (T : Turn X.prog X.w X.K tg J fp it tn) (f2 : ∀ b ∈ fp, FpOk X pins H2 b) (hfp : ∀ b ∈ fp, b < s₂.heap.objs.size)
    (hs₀ : ∀ b o, s₂.heap.get? b = some o → s₀.heap.get? b = some o) (hos : s₀.os = s₂.os) (hD : s₂.heap.objs.size ≤ D) (hC : s₂.heap.objs.size ≤ C) (hDC : D ≠ C)
    (hcl1 : ∀ x c, cl.lookup x = some c → X.env.cells.lookup x = some c)
    (hg : PG (cxC X N' scope cl C D fp s₀ H2) tg g) (ht : PIfs (cxC X N' scope cl C D fp s₀ H2) ifs tt) (he : PE (cxC X N' scope cl C D fp s₀ H2) elt te)
    (turn : ∀ i m ys σ' H', W i m ys σ' H' →
      (J.stop i H' ∧ ∀ l, H' l = none → Q (.ref l) (upd H' l (.lst ys))) ∨
      (J.go i H' ∧ ∃ Nn : List V → L2.St → Hp → Prop, (∀ zs σ2 H2, Nn zs σ2 H2 → ∃ m', m' < m ∧ W (i + 1) m' zs σ2 H2) ∧
        ∀ x H2, J.yld i H' x H2 → g x σ' H2 fun σ2 H3 => tt σ2 H3 fun b H4 => if b = true then te σ2 H4 fun y H5 => ys.length < sizeLine ∧ Nn (ys ++ [y]) σ2 H5 else Nn ys σ2 H4))
    (hRR : ∀ (D C : Addr) (oC : Obj) (m : Str → Option Value) (s' : Shared) (Hf : Hp), Inv X (pins ++ [(C, oC)]) σ Hf s' → s'.heap.Ns C m → FpOk X pins Hf C → Q (.ref D) Hf → RR (.ref D) C (.ok .next) s')
    (n : Nat) (s : Shared) (h : ∃ i ys us k σ' H', Inv (cxC X N' scope cl C D fp s₀ H2) pins σ' H' s ∧ tn i s.heap ∧ (∀ b ∈ fp, H' b = none) ∧ H' D = none ∧
      s.heap.get? D = some { cls := .type "list", data := .seq (us : List Value).toArray k } ∧ Vals ys us ∧ ys.length ≤ sizeLine ∧ W i n ys σ' H') :
    codeAny (model X.prog X.w) X.A (.compLoop (.ListComp elt [⟨tg, iter, ifs, 0⟩] scope pos) 0 (.ref it) (.ref D) (compEnvC scope cl C X.env)) (RR (.ref D) C) s := by
  have frsz : ∀ b ∈ frs X.stack, b < s₂.heap.objs.size := fun b hb => by
    rcases List.mem_cons.mp (I.stkSub b hb) with z | z
    · rw [z]; exact I.lt
    · exact Nat.lt_of_not_le fun q => I.nofs q z
  have cells : ∀ x c, cl.lookup x = some c → c < s₂.heap.objs.size := fun x c e => let ⟨v, q⟩ := I.cell x c (hcl1 x c e); q.lt
  have pinsz : ∀ p ∈ X.pn ++ pins, p.1 < s₂.heap.objs.size := fun p hp => Heap.lt_size (I.pin p hp).1
  refine comp_loop (fun n s => ∃ i ys us k σ' H', Inv (cxC X N' scope cl C D fp s₀ H2) pins σ' H' s ∧ tn i s.heap ∧ (∀ b ∈ fp, H' b = none) ∧ H' D = none ∧
      s.heap.get? D = some { cls := .type "list", data := .seq (us : List Value).toArray k } ∧ Vals ys us ∧ ys.length ≤ sizeLine ∧ W i n ys σ' H') ?_ n h
  rintro n s ⟨i, ys, us, k, σ', H', I', st', fr, hn, hy, rv, hz, w'⟩
  have pD : Inv (cxC X N' scope cl C D fp s₀ H2) (pins ++ [(D, { cls := .type "list", data := .seq us.toArray k })]) σ' H' s := I'.pins_of fun p hp => by
    rcases List.mem_append.mp hp with hp | hp
    · exact I'.pin p (List.mem_append_right _ hp)
    · rw [List.mem_singleton.mp hp]
      exact ⟨hy, hn, hDC, fun z => absurd (Nat.lt_of_lt_of_le (frsz _ z) hD) (Nat.lt_irrefl _), fun v z => by cases z⟩
  have fpok : ∀ {H'' : Hp}, (∀ b ∈ fp, H'' b = none) → ∀ b ∈ fp, FpOk (cxC X N' scope cl C D fp s₀ H2) (pins ++ [(D, { cls := .type "list", data := .seq us.toArray k })]) H'' b := fun hz b hb => by
    refine ⟨hz b hb, Nat.ne_of_lt (Nat.lt_of_lt_of_le (hfp b hb) hC), fun z => ?_, .inl (List.mem_cons_of_mem _ hb), fun x c e => (f2 b hb).2.2.2.2.1 x c (hcl1 x c e), fun p hp => ?_⟩
    · rcases List.mem_cons.mp (I.stkSub b z) with z | z
      · exact (f2 b hb).2.1 z
      · exact (f2 b hb).2.2.1 z
    · rcases List.mem_append.mp hp with hp | hp
      · exact (f2 b hb).2.2.2.2.2 p (List.mem_append_left _ hp)
      · rcases List.mem_append.mp hp with hp | hp
        · exact (f2 b hb).2.2.2.2.2 p (List.mem_append_right _ hp)
        · rw [List.mem_singleton.mp hp]
          exact Nat.ne_of_gt (Nat.lt_of_lt_of_le (hfp b hb) hD)
  rcases turn i n ys σ' H' w' with ⟨stop, q⟩ | ⟨go, Nn, hN, step⟩
  · refine thn (T.done (cxC X N' scope cl C D fp s₀ H2) rfl rfl rfl hcalm i _ s σ' H' (fun _ _ => False) pD (fpok fr) st' stop) fun r s1 ⟨hr, I1⟩ => ?_
    subst hr
    have hy1 := (I1.pin (D, { cls := .type "list", data := .seq us.toArray k }) (by simp)).1
    obtain ⟨m, hm, _⟩ := I1.loc
    obtain ⟨oC, es, ep, hoC, hdC, _⟩ := id hm
    obtain ⟨IX, fpc⟩ := comp_fin I hs₀ hos hD hC hDC f2 I1.unpinned hn hy1 rv hz hoC (by intro v z; rw [hdC] at z; cases z)
    exact hRR D C oC m s1 _ IX hm fpc (q D hn)
  · refine thn (T.item (cxC X N' scope cl C D fp s₀ H2) rfl rfl rfl hcalm i _ s σ' H' (fun _ _ => False) pD (fpok fr) st' go) fun r s1 ⟨u, hr, h4⟩ => ?_
    subst hr
    refine thn h4 fun _ s2 ⟨x5, H5, I5, r5, y5, st5, fr5⟩ => ?_
    have I5' := I5.pinned (fpok fr5) (T.obj _ _ st5)
    refine thn (hg _ s2 σ' H5 x5 u _ I5' r5 (step x5 H5 y5)) fun _ s3 ⟨σ6, H6, I6, q6⟩ => ?_
    refine thn (ht _ s3 σ6 H6 _ I6 q6) fun ok s4 ⟨H7, I7, q7⟩ => ?_
    have stay : ∀ {σ7 : L2.St} {H7 : Hp} {s7 : Shared}, Inv (cxC X N' scope cl C D fp s₀ H2) (pins ++ [(D, { cls := .type "list", data := .seq us.toArray k })] ++ pinsAt fp s2.heap) σ7 H7 s7 →
        (∀ b ∈ fp, ∀ o, s2.heap.get? b = some o → s7.heap.get? b = some o) ∧ (∀ b ∈ fp, H7 b = none) ∧ H7 D = none ∧ s7.heap.get? D = some { cls := .type "list", data := .seq us.toArray k } := fun {σ7 H7 s7} I7 => by
      have d := I7.pin (D, { cls := .type "list", data := .seq us.toArray k }) (by simp)
      refine ⟨fun b hb o e => (I7.pin (b, o) (List.mem_append_right _ (List.mem_append_right _ (mem_pinsAt hb e)))).1, fun b hb => ?_, d.2.1, d.1⟩
      obtain ⟨o, e, _⟩ := T.obj _ _ st5 b hb
      exact (I7.pin (b, o) (List.mem_append_right _ (List.mem_append_right _ (mem_pinsAt hb e)))).2.1
    cases ok with
    | false =>
      rw [if_neg (by decide)] at q7 ⊢
      obtain ⟨k1, k2, k3, k4⟩ := stay I7
      obtain ⟨m', hm, w7⟩ := hN ys σ6 H7 q7
      exact ⟨m', hm, i + 1, ys, us, k, σ6, H7, I7.unpinned.unpinned, T.keep _ _ _ st5 k1, k2, k3, k4, rv, hz, w7⟩
    | true =>
      rw [if_pos rfl] at q7 ⊢
      refine thn (he _ s4 σ6 H7 _ I7 q7) fun v s5 ⟨y, H8, I8, r8, hl8, n8⟩ => ?_
      obtain ⟨k1, k2, k3, k4⟩ := stay I8
      refine wpAny_list_append_plain (l := D) ⟨k, k4⟩ (fun h' pl sb => ?_) (by rw [List.size_toArray, ← rv.length]; exact hz)
      obtain ⟨k', e'⟩ := pl
      obtain ⟨m', hm, w8⟩ := hN _ σ6 H8 n8
      refine ⟨m', hm, i + 1, ys ++ [y], us ++ [v], k', σ6, H8, ?_, T.keep _ _ _ (T.keep _ _ _ st5 k1) fun b hb o e => sb.extBut b o (Nat.ne_of_lt (Nat.lt_of_lt_of_le (hfp b hb) hD)) e, k2, k3, ?_, rv.append (.cons r8 .nil), ?_, w8⟩
      · exact (I8.unpinned.unpinned).turned (it := D) (t' := s5.toks) (h' := h') (fun b o hb e => sb.extBut b o hb e) k3 hDC (.inl (by simp)) (fun x c e => Nat.ne_of_lt (Nat.lt_of_lt_of_le (cells x c e) hD)) (fun p hp => Nat.ne_of_lt (Nat.lt_of_lt_of_le (pinsz p hp) hD))
      · rw [e']; simp
      · rw [List.length_append]; exact hl8
theorem comp_blockT {tg : Expr} {pos : Pos} {elt iter : Expr} {ifs : List Expr} {g : TG} {tt : TT} {te : TE} {E : Value → Shared → Prop} {Q : VK} {RR : Value → Addr → Result → Shared → Prop}
    (I : Inv X pins σ H2 s₂) (hcalm : X.calm = true) (T : Turn X.prog X.w X.K tg J fp it tn) (st : tn 0 s₂.heap) (f2 : ∀ b ∈ fp, FpOk X pins H2 b)
    (S : CSc X scope N' sub) (hcl1 : ∀ x c, cl.lookup x = some c → X.env.cells.lookup x = some c) (hcl2 : ∀ y ∈ scope.names, y.2 = .free → ∃ c, cl.lookup y.1 = some c)
    (hg : ∀ C D fp s H, PG (cxC X N' scope cl C D fp s H) tg g) (ht : ∀ C D fp s H, PIfs (cxC X N' scope cl C D fp s H) ifs tt) (he : ∀ C D fp s H, PE (cxC X N' scope cl C D fp s H) elt te)
    (hW : CompW J (capt sub σ) H2 g tt te Q)
    (hRR : ∀ (D C : Addr) (oC : Obj) (m : Str → Option Value) (s' : Shared) (Hf : Hp), Inv X (pins ++ [(C, oC)]) σ Hf s' → s'.heap.Ns C m → FpOk X pins Hf C → Q (.ref D) Hf → RR (.ref D) C (.ok .next) s') :
    wpAny (model X.prog X.w) X.A (newList []) (fun acc s₃ => wpAny (model X.prog X.w) X.A (newFunctionEnv scope X.env.globals cl [] X.env.qual none .none (some X.env)) (fun cenv s₄ =>
      codeAny (model X.prog X.w) X.A (.compStart (.ListComp elt [⟨tg, iter, ifs, 0⟩] scope pos) 0 (.ref it) acc { cenv with scope := relabel scope X.env }) (RR acc cenv.locals) s₄) E s₃) E s₂ := by
  obtain ⟨W, ⟨m0, w0⟩, turn⟩ := hW
  refine wpAny_newObj_type (wpAny_newFunctionEnv S.nocell (by intro y hy; simp at hy) (fun h₁ hns₁ hsb₁ => ?_) S.kind)
  dsimp only at hns₁ hsb₁ ⊢
  have hC : (s₂.heap.push { cls := .type "list", dict := none, data := .seq ([] : List Value).toArray }).objs.size = s₂.heap.objs.size + 1 := Heap.size_push ..
  rw [hC] at hns₁ hsb₁ ⊢
  have hk : ∀ b o, (s₂.heap.push { cls := .type "list", dict := none, data := .seq ([] : List Value).toArray }).get? b = some o → h₁.get? b = some o := fun b o e =>
    hsb₁.extBut b o (by have := Heap.lt_size e; rw [hC] at this; exact Nat.ne_of_lt this) (Heap.get?_push_of_some _ e)
  have hfp : ∀ b ∈ fp, b < s₂.heap.objs.size := fun b hb => by
    obtain ⟨o, e, _⟩ := T.obj _ _ st b hb
    exact Heap.lt_size e
  have I0 := comp_start (tk := s₂.toks + ([] : List (Str × Value)).length) I S hcl1 hcl2 f2 hfp hns₁ hk
  have hD0 : h₁.get? s₂.heap.objs.size = some { cls := .type "list", data := .seq ([] : List Value).toArray 0 } := hk _ _ (Heap.get?_push_size _ rfl)
  have loop : codeAny (model X.prog X.w) X.A (.compLoop (.ListComp elt [⟨tg, iter, ifs, 0⟩] scope pos) 0 (.ref it) (.ref s₂.heap.objs.size) (compEnvC scope cl (s₂.heap.objs.size + 1) X.env)) (RR (.ref s₂.heap.objs.size) (s₂.heap.objs.size + 1)) { s₂ with heap := h₁, toks := s₂.toks + ([] : List (Str × Value)).length } :=
    comp_runT (s₀ := { s₂ with heap := s₂.heap.push { cls := .type "list", dict := none, data := .seq ([] : List Value).toArray } }) (C := s₂.heap.objs.size + 1) (D := s₂.heap.objs.size) I hcalm T f2 hfp (fun b o e => Heap.get?_push_of_some _ e) rfl (Nat.le_refl _) (Nat.le_succ _) (Nat.ne_of_lt (Nat.lt_succ_self _)) hcl1 (hg _ _ _ _ _) (ht _ _ _ _ _) (he _ _ _ _ _) turn hRR m0 _
      ⟨0, [], [], 0, capt sub σ, H2, I0, T.keep _ _ _ st fun b hb o e => hk b o (Heap.get?_push_of_some _ e), fun b hb => (f2 b hb).1, I.hok.fresh (Nat.le_refl _), hD0, .nil, Nat.zero_le _, w0⟩
  exact codeAny_compStart_list loop (T.self _ _ _ _ _ (T.keep _ _ _ st fun b hb o e => hk b o (Heap.get?_push_of_some _ e)) loop)
end
section
variable {X : Cx} {scope : Scope} {N' : List Str} {sub : List (Option Nat)} {tg : Expr} {pos : Pos} {elt iter : Expr} {ifs : List Expr} {wi : TI} {g : TG} {tt : TT} {te : TE}
theorem pe_compT (S : CSc X scope N' sub) (hcalm : X.calm = true) (hi : PI X tg iter wi)
    (hg : ∀ cl C D fp s H, PG (cxC X N' scope cl C D fp s H) tg g) (ht : ∀ cl C D fp s H, PIfs (cxC X N' scope cl C D fp s H) ifs tt) (he : ∀ cl C D fp s H, PE (cxC X N' scope cl C D fp s H) elt te)
    (hs : ∀ x, foldedSetIterable iter X.env x = pure x := by intro _; rfl) : PE X (.ListComp elt [⟨tg, iter, ifs, 0⟩] scope pos) (tComp wi sub g tt te) := by
  intro pins s σ H Q I h
  obtain ⟨cl, hclos, hcl1, hcl2⟩ := S.clos I
  rw [eval_ListComp]
  refine wpAny_comprehension_free (use := none) rfl hs hclos S.kind S.names (thn (hi pins s σ H _ I h) fun v s1 h1 => thn h1 fun itv s2 h2 => ?_)
  obtain ⟨it, fp, tn, J, H2, e, I2, T, st2, f2, hW⟩ := h2
  subst e
  refine comp_blockT (RR := fun acc C => compPost (model X.prog X.w) X.A X.xe none (EP X pins σ Q) acc C) I2 hcalm T st2 f2 S hcl1 hcl2 (hg cl) (ht cl) (he cl) hW ?_
  intro D C oC m s' Hf IX hm fpc q
  refine ⟨m, hm, fun h' sb => ⟨.ref D, Hf, ?_, rfl, q⟩⟩
  exact (IX.unpinned).turned (it := C) (t' := s'.toks) (h' := h') (fun b o hb e => sb.extBut b o hb e) fpc.1 fpc.2.1 fpc.2.2.2.1 fpc.2.2.2.2.1 fpc.2.2.2.2.2
theorem ps_compT {i : Nat} {y : Str} {py spos : Pos} (hN : X.N.Nodup) (hiN : X.N[i]? = some y) (hy : X.env.scope.names.lookup y = some .local) (S : CSc X scope N' sub) (hcalm : X.calm = true) (hi : PI X tg iter wi)
    (hg : ∀ cl C D fp s H, PG (cxC X N' scope cl C D fp s H) tg g) (ht : ∀ cl C D fp s H, PIfs (cxC X N' scope cl C D fp s H) ifs tt) (he : ∀ cl C D fp s H, PE (cxC X N' scope cl C D fp s H) elt te)
    (hsw : swapsWith (.ListComp elt [⟨tg, iter, ifs, 0⟩] scope pos) (some (.Name y py)) spos.line X.env = pure true := by rfl)
    (hs : ∀ x, foldedSetIterable iter X.env x = pure x := by intro _; rfl) : PS X (.Assign [.Name y py] (.ListComp elt [⟨tg, iter, ifs, 0⟩] scope pos) spos) (tAsg (tComp wi sub g tt te) (gName i)) := by
  intro pins s σ H D I h
  obtain ⟨cl, hclos, hcl1, hcl2⟩ := S.clos I
  rw [exec_Assign_Name_used _ _ _ _ hsw]
  refine wpAny_bind (wpAny_standAt (wpAny_bind ?_))
  show wpAny _ X.A (do let _ ← comprehension (.ListComp elt [⟨tg, iter, ifs, 0⟩] scope pos) scope X.env _ (newList []) false (eval iter X.env) (some (assign (.Name y py) X.env))) _ _ s
  refine wpAny_bind (wpAny_mono (wpAny_comprehension_free (use := some (assign (.Name y py) X.env)) (Q := fun _ s' => SP X pins D .next s') rfl hs hclos S.kind S.names
    (thn (hi pins s σ H _ I h) fun v s1 h1 => thn h1 fun itv s2 h2 => ?_)) (fun _ s' hq => wpAny_pure (wpAny_pure hq)) fun _ _ e => e)
  obtain ⟨it, fp, tn, J, H2, e, I2, T, st2, f2, hW⟩ := h2
  subst e
  refine comp_blockT (Q := fun x H1 => gName i x σ H1 D.nx) (RR := fun acc C => compPost (model X.prog X.w) X.A X.xe (some (assign (.Name y py) X.env)) (fun _ s' => SP X pins D .next s') acc C) I2 hcalm T st2 f2 S hcl1 hcl2 (hg cl) (ht cl) (he cl) hW ?_
  intro L C oC m s' Hf IX hm fpc q
  have st := pg_name (X := X) (pos := py) hN hiN (.inl hy) (.inr hy) _ s' σ Hf (.ref L) (.ref L) D.nx IX rfl q
  refine thn st fun _ s'' ⟨σ2, H2, I2', q2⟩ => ?_
  have p := I2'.pin (C, oC) (by simp)
  have hm' : s''.heap.Ns C m := by
    obtain ⟨o, es, ep, e1, r⟩ := hm
    have z := (IX.pin (C, oC) (by simp)).1
    rw [e1] at z; cases z
    exact ⟨_, es, ep, p.1, r⟩
  refine ⟨m, hm', fun h' sb => ⟨σ2, H2, ?_, q2⟩⟩
  exact (I2'.unpinned).turned (it := C) (t' := s''.toks) (h' := h') (fun b o hb e => sb.extBut b o hb e) p.2.1 fpc.2.1 fpc.2.2.2.1 fpc.2.2.2.2.1 fpc.2.2.2.2.2
end
end L3

namespace L3
open PySem PySem.Spec PyProof.Rows L2
section
variable {prog : Program} {w : World} {A : Around} {E : Value → Shared → Prop} {s : Shared}
theorem pair_0 {h : Heap} {T : Addr} {a b : Value} (hp : IsPair h T a b) (v : Value) : IsPair (h.update T (Obj.mapSeq fun x => x.setIfInBounds 0 v)) T v b ∧ Heap.SameBut T h (h.update T (Obj.mapSeq fun x => x.setIfInBounds 0 v)) :=
  ⟨Heap.get?_update_self _ hp rfl, Heap.SameBut.update ..⟩
theorem pair_1 {h : Heap} {T : Addr} {a b : Value} (hp : IsPair h T a b) (v : Value) : IsPair (h.update T (Obj.mapSeq fun x => x.setIfInBounds 1 v)) T a v ∧ Heap.SameBut T h (h.update T (Obj.mapSeq fun x => x.setIfInBounds 1 v)) :=
  ⟨Heap.get?_update_self _ hp rfl, Heap.SameBut.update ..⟩
end
end L3

namespace L3
open PySem PySem.Spec PyProof.Rows L2
section
variable {prog : Program} {w : World} {A : Around} {E : Value → Shared → Prop} {s : Shared}
theorem stop_next {e : Addr} {Q : Option Value → Shared → Prop} (h : ∃ o, s.heap.get? e = some o ∧ o.cls = .type "StopIteration") (q : Q none s) :
    wpAny (model prog w) A (do if ← isInstance (.ref e) (.type "StopIteration") then pure none else throw (.ref e) : Sem (Option Value)) Q E s := by
  refine wpAny_bind (wpAny_isInstance (T := "StopIteration") (b := true) h (by first | rfl | decide) ?_)
  rw [if_pos rfl]
  exact wpAny_pure q
def SrcAt (h : Heap) (a : Addr) (cn : String) (vs : Array Value) : Prop := (cn = "tuple_iterator" ∧ h.IsTuple a vs) ∨ (cn = "list_iterator" ∧ h.IsList a vs)
theorem SrcAt.iter {a : Addr} {cn : String} {vs : Array Value} {Q : Value → Shared → Prop} (h : SrcAt s.heap a cn vs)
    (q : Q (.ref s.heap.objs.size) { s with heap := s.heap.push { cls := .type cn, data := .fields #[.ref a, .int 0 0] } }) : wpAny (model prog w) A (pyIter (.ref a)) Q E s := by
  rcases h with ⟨rfl, h⟩ | ⟨rfl, h⟩
  · exact wpAny_pyIter_tuple h q
  · exact wpAny_pyIter_list h q
theorem SrcAt.push {h : Heap} {a : Addr} {cn : String} {vs : Array Value} (x : SrcAt h a cn vs) (o : Obj) : SrcAt (h.push o) a cn vs := by
  rcases x with ⟨rfl, x⟩ | ⟨rfl, x⟩
  · exact .inl ⟨rfl, x.push o⟩
  · exact .inr ⟨rfl, x.push o⟩
def zpO (c : String) (a : Addr) : Obj := { cls := .type c, data := .fields #[.ref a, .int 0 0] }
def zpT (a b : Value) : Obj := { cls := .type "tuple", data := .seq #[a, b] }
def zpZ (TI TO : Addr) : Obj := { cls := .type "zip", data := .fields #[.none, .bool false, .bool false, .ref TI, .ref TO] }
def zpN (h : Heap) (c1 : String) (a : Addr) (c2 : String) (b : Addr) : Addr :=
  let h1 := h.push (zpO c1 a)
  let h2 := h1.push (zpO c2 b)
  let h3 := h2.push (zpT (.ref h.objs.size) (.ref h1.objs.size))
  (h3.push (zpT .none .none)).objs.size
def zpH (h : Heap) (c1 : String) (a : Addr) (c2 : String) (b : Addr) : Heap :=
  let h1 := h.push (zpO c1 a)
  let h2 := h1.push (zpO c2 b)
  let h3 := h2.push (zpT (.ref h.objs.size) (.ref h1.objs.size))
  let h4 := h3.push (zpT .none .none)
  h4.push (zpZ h2.objs.size h3.objs.size)
theorem zip_new (a b : Addr) (c1 c2 : String) (xs ys : Array Value) :
    Meets (Builtin.«zip.__new__» ⟨[.type "zip", .ref a, .ref b], []⟩) (fun _ R s => SrcAt s.heap a c1 xs ∧ SrcAt s.heap b c2 ys ∧
      R (.ok (.ret (.ref (zpN s.heap c1 a c2 b)))) { s with heap := zpH s.heap c1 a c2 b }) :=
  .of_wp fun prog w A R s h => by
    obtain ⟨hp, g, d, tk, os⟩ := s; obtain ⟨h1, h2, h⟩ := h
    have hsub := sub_zip
    have h2' : SrcAt (Shared.heap ⟨hp.push { cls := .type c1, data := .fields #[.ref a, .int 0 0] }, g, d, tk, os⟩) b c2 ys := h2.push _
    wp_walk using SrcAt.iter h1, SrcAt.iter h2'
    exact ⟨_, rfl, h⟩
theorem call_zipS {a b : Addr} {c1 c2 : String} {xs ys : Array Value} {Q : Value → Shared → Prop} (ha : SrcAt s.heap a c1 xs) (hb : SrcAt s.heap b c2 ys)
    (h : ∀ h', IsZip h' (s.heap.objs.size + 4) (s.heap.objs.size + 2) (s.heap.objs.size + 3) .none → IsPair h' (s.heap.objs.size + 2) (.ref s.heap.objs.size) (.ref (s.heap.objs.size + 1)) → IsPair h' (s.heap.objs.size + 3) .none .none →
      h'.get? s.heap.objs.size = some (zpO c1 a) → h'.get? (s.heap.objs.size + 1) = some (zpO c2 b) → (∀ c o, s.heap.get? c = some o → h'.get? c = some o) → Q (.ref (s.heap.objs.size + 4)) { s with heap := h' }) :
    wpAny (model prog w) A (call (.type "zip") [.ref a, .ref b]) Q E s := by
  refine callType_new F.called_zip (by decide) (F.typeCall_zip_2 _ _) (F.newCall_zip_2 _ _) (fun obj => F.args_object_init_3 obj _ _) F.entry_zip_new (zip_new a b c1 c2 xs ys) ⟨ha, hb, ?_⟩
  have gs : ∀ (h : Heap) (o : Obj) (m : Nat), o.isFreed = false → h.objs.size = m → (h.push o).get? m = some o ∧ (h.push o).objs.size = m + 1 := fun h o m f e => by
    subst e; exact ⟨Heap.get?_push_size _ f, Heap.size_push ..⟩
  obtain ⟨e1, z1⟩ := gs s.heap (zpO c1 a) _ rfl rfl
  obtain ⟨e2, z2⟩ := gs (s.heap.push (zpO c1 a)) (zpO c2 b) _ rfl z1
  obtain ⟨e3, z3⟩ := gs ((s.heap.push (zpO c1 a)).push (zpO c2 b)) (zpT (.ref s.heap.objs.size) (.ref (s.heap.push (zpO c1 a)).objs.size)) _ rfl z2
  obtain ⟨e4, z4⟩ := gs (((s.heap.push (zpO c1 a)).push (zpO c2 b)).push (zpT (.ref s.heap.objs.size) (.ref (s.heap.push (zpO c1 a)).objs.size))) (zpT .none .none) _ rfl z3
  obtain ⟨e5, z5⟩ := gs ((((s.heap.push (zpO c1 a)).push (zpO c2 b)).push (zpT (.ref s.heap.objs.size) (.ref (s.heap.push (zpO c1 a)).objs.size))).push (zpT .none .none)) (zpZ ((s.heap.push (zpO c1 a)).push (zpO c2 b)).objs.size (((s.heap.push (zpO c1 a)).push (zpO c2 b)).push (zpT (.ref s.heap.objs.size) (.ref (s.heap.push (zpO c1 a)).objs.size))).objs.size) _ rfl z4
  have eN : zpN s.heap c1 a c2 b = s.heap.objs.size + 4 := z4
  have ps : ∀ (h : Heap) (o : Obj) (c : Addr) (q : Obj), h.get? c = some q → (h.push o).get? c = some q := fun h o c q e => Heap.get?_push_of_some _ e
  have f5 : (zpH s.heap c1 a c2 b).get? (s.heap.objs.size + 4) = some (zpZ (s.heap.objs.size + 2) (s.heap.objs.size + 3)) := by
    have := e5
    rw [z2, z3] at this
    unfold zpH
    dsimp only
    rw [z2, z3]
    exact this
  have f3 : (zpH s.heap c1 a c2 b).get? (s.heap.objs.size + 2) = some (zpT (.ref s.heap.objs.size) (.ref (s.heap.objs.size + 1))) := by
    have := ps _ (zpZ ((s.heap.push (zpO c1 a)).push (zpO c2 b)).objs.size (((s.heap.push (zpO c1 a)).push (zpO c2 b)).push (zpT (.ref s.heap.objs.size) (.ref (s.heap.push (zpO c1 a)).objs.size))).objs.size) _ _ (ps _ (zpT .none .none) _ _ e3)
    unfold zpH
    dsimp only
    exact this.trans (by rw [z1])
  have f4 : (zpH s.heap c1 a c2 b).get? (s.heap.objs.size + 3) = some (zpT .none .none) := ps _ _ _ _ e4
  have f1 : (zpH s.heap c1 a c2 b).get? s.heap.objs.size = some (zpO c1 a) := ps _ _ _ _ (ps _ _ _ _ (ps _ _ _ _ (ps _ _ _ _ e1)))
  have f2 : (zpH s.heap c1 a c2 b).get? (s.heap.objs.size + 1) = some (zpO c2 b) := ps _ _ _ _ (ps _ _ _ _ (ps _ _ _ _ e2))
  have fk : ∀ c o, s.heap.get? c = some o → (zpH s.heap c1 a c2 b).get? c = some o := fun c o e => ps _ _ _ _ (ps _ _ _ _ (ps _ _ _ _ (ps _ _ _ _ (ps _ _ _ _ e))))
  show _ ∧ _
  rw [eN]
  exact ⟨⟨_, f5, rfl⟩, h _ f5 f3 f4 f1 f2 fk⟩
end
end L3

namespace L3
open PySem PySem.Spec PyProof.Rows L2
def SqC (c : Bool) (K : PySem.W.Frag) (H : Hp) (a : Addr) (xs : List V) : Prop := match c with
  | true => SqT K H a xs
  | false => SqL K H a xs
def IterC (c : Bool) (h : Heap) (j a : Addr) (i : Nat) : Prop := match c with
  | true => h.IsTupleIter j a i
  | false => h.IsListIter j a i
def SeqC (c : Bool) (h : Heap) (a : Addr) (vs : Array Value) : Prop := match c with
  | true => h.IsTuple a vs
  | false => h.IsList a vs
def cnC (c : Bool) : String := match c with
  | true => "tuple_iterator"
  | false => "list_iterator"
theorem IterC.at {c : Bool} {h h' : Heap} {j a : Addr} {i : Nat} (x : IterC c h j a i) (k : ∀ o, h.get? j = some o → h'.get? j = some o) : IterC c h' j a i := by
  cases c
  · exact Heap.IsListIter.at x k
  · exact Heap.IsTupleIter.at x k
theorem IterC.obj {c : Bool} {h : Heap} {j a : Addr} {i : Nat} (x : IterC c h j a i) : ∃ o, h.get? j = some o ∧ ∀ v, o.data ≠ .cell v := by
  cases c
  · obtain ⟨o, e, _, d⟩ := x
    exact ⟨o, e, fun v z => by rw [d] at z; cases z⟩
  · obtain ⟨o, e, _, d⟩ := x
    exact ⟨o, e, fun v z => by rw [d] at z; cases z⟩
theorem IterC.mk {c : Bool} {h : Heap} {j a : Addr} (e : h.get? j = some (zpO (cnC c) a)) : IterC c h j a 0 := by
  cases c
  · exact ⟨_, e, rfl, rfl⟩
  · exact ⟨_, e, rfl, rfl⟩
theorem SeqC.src {c : Bool} {h : Heap} {a : Addr} {vs : Array Value} (x : SeqC c h a vs) : SrcAt h a (cnC c) vs := by
  cases c
  · exact .inr ⟨rfl, x⟩
  · exact .inl ⟨rfl, x⟩
theorem SeqC.lt {c : Bool} {h : Heap} {a : Addr} {vs : Array Value} (x : SeqC c h a vs) : a < h.objs.size := by
  cases c
  · obtain ⟨_, e, _⟩ := (show h.IsList a vs from x); exact Heap.lt_size e
  · obtain ⟨_, e, _⟩ := (show h.IsTuple a vs from x); exact Heap.lt_size e
theorem drawsC {prog : Program} {w : World} {A : Around} (hh : A.handled = none) (c : Bool) (j t : Addr) (hne : t ≠ j) (vs : Array Value) :
    Draws prog w A j [j, t] vs.size (fun i v => vs[i]? = some v) (fun i h => IterC c h j t i ∧ SeqC c h t vs) := by
  cases c
  · exact Draws.list hh j t hne vs
  · exact draws_tup hh j t hne vs
theorem draws_endL {prog : Program} {w : World} {A : Around} (hh : A.handled = none) (jt t : Addr) (vs : Array Value) {i : Nat} (hv : vs[i]? = none) :
    Draws prog w A jt [jt, t] i (fun _ _ => True) (fun j h => j = i ∧ h.IsListIter jt t i ∧ h.IsList t vs) where
  live := fun _ _ st => let ⟨o, ho, _⟩ := st.2.1; ⟨o, ho⟩
  frame := fun _ _ _ st hk => ⟨st.1, st.2.1.at (hk jt (by simp)), st.2.2.at (hk t (by simp))⟩
  item := fun j s Q E hj st hQ => absurd st.1 (Nat.ne_of_lt hj)
  done := fun s Q E st hE => wpAny_nextOf_list_end hh st.2.1 st.2.2 hv hE
theorem drawsC_end {prog : Program} {w : World} {A : Around} (hh : A.handled = none) (c : Bool) (j t : Addr) (vs : Array Value) {i : Nat} (hv : vs[i]? = none) :
    Draws prog w A j [j, t] i (fun _ _ => True) (fun k h => k = i ∧ IterC c h j t i ∧ SeqC c h t vs) := by
  cases c
  · exact draws_endL hh j t vs hv
  · exact draws_end hh j t vs hv
theorem inv_seqC {X : Cx} {pins : List (Addr × Obj)} {σ : L2.St} {H : Hp} {s : Shared} {c : Bool} {a : Addr} {xs : List V} (I : Inv X pins σ H s) (h : SqC c X.K H a xs) : ∃ its : List Value, Vals xs its ∧ SeqC c s.heap a its.toArray := by
  cases c
  · obtain ⟨its, r, p, _⟩ := I.list h
    exact ⟨its, r, p.isList⟩
  · obtain ⟨its, r, p, _⟩ := I.tuple h
    exact ⟨its, r, p⟩
theorem inv_seqC_inj {X : Cx} {pins : List (Addr × Obj)} {σ : L2.St} {H : Hp} {s : Shared} {c : Bool} {a : Addr} {xs ys : List V} (I : Inv X pins σ H s) (h : SqC c X.K H a xs) (h' : SqC c X.K H a ys) : xs = ys := by
  cases c
  · exact I.list_inj h h'
  · exact I.tuple_inj h h'
theorem nin2 {z j t : Nat} (h1 : z ≠ j) (h2 : z ≠ t) : z ∉ ([j, t] : List Nat) := by simp [h1, h2]
def Itz (K : PySem.W.Frag) (c : Bool) (a : Addr) (d : Bool) (b : Addr) : It :=
  ⟨fun i H => ∃ xs ys x y, SqC c K H a xs ∧ SqC d K H b ys ∧ xs[i]? = some x ∧ ys[i]? = some y,
   fun i H x H' => ∃ T v w, H T = none ∧ x = .ref T ∧ H' = upd H T (.tup [v, w]) ∧ (∀ xs, SqC c K H a xs → xs[i]? = some v) ∧ ∀ ys, SqC d K H b ys → ys[i]? = some w,
   fun i H => ∃ xs ys, SqC c K H a xs ∧ SqC d K H b ys ∧ (xs.length ≤ i ∨ ys.length ≤ i)⟩
theorem nad {n : Nat} (i j : Nat) (h : i ≠ j) : n + i ≠ n + j := fun z => h (Nat.add_left_cancel z)
theorem nad0 {n : Nat} (i : Nat) (h : i ≠ 0) : n + i ≠ n := fun z => h (Nat.add_left_cancel (z.trans (Nat.add_zero n).symm))
section
variable {X : Cx} {elts : List Expr} {kt : Nat} {pt : Pos}
theorem b_zip : bootBuiltins "zip" = some (.type "zip") := by decide +kernel
def iZip (K : PySem.W.Frag) (ta : TA) : TI := fun σ H R => ta σ H fun vs H1 => ∃ (c d : Bool) (a b : Addr), vs = [.ref a, .ref b] ∧ (∃ xs, SqC c K H1 a xs) ∧ (∃ ys, SqC d K H1 b ys) ∧ R (Itz K c a d b) H1
end
end L3

namespace L3
open PySem PySem.Spec PyProof.Rows L2
section
variable {X : Cx} {elts : List Expr} {kt : Nat} {pt : Pos} {K : PySem.W.Frag}
end
section
variable {K : PySem.W.Frag} {a b : Addr} {c d : Bool} {xs ys : List V} {g : TG} {tt : TT} {te : TE} {tb : TS} {D : Ends} {Q : VK} {σ : L2.St} {H : Hp}
theorem for_zip (Pv : Nat → L2.St → Hp → Prop) (h0 : Pv 0 σ H) (hl : ∀ i σ H, Pv i σ H → SqC c K H a xs ∧ SqC d K H b ys)
    (hs : ∀ i x y σ H T, xs[i]? = some x → ys[i]? = some y → Pv i σ H → H T = none → g (.ref T) σ (upd H T (.tup [x, y])) fun σ2 H2 => tb { D with nx := Pv (i + 1), ct := Pv (i + 1), bk := D.nx } σ2 H2) (hd : ∀ σ H, Pv (min xs.length ys.length) σ H → D.nx σ H) :
    ∃ W : Nat → Nat → L2.St → Hp → Prop, (∃ m, W 0 m σ H) ∧ ∀ i m σ H, W i m σ H →
      ((Itz K c a d b).stop i H ∧ D.nx σ H) ∨ ((Itz K c a d b).go i H ∧ ∃ N : L2.St → Hp → Prop, (∀ σ' H', N σ' H' → ∃ m', m' < m ∧ W (i + 1) m' σ' H') ∧ ∀ x H', (Itz K c a d b).yld i H x H' → g x σ H' fun σ2 H2 => tb { D with nx := N, ct := N, bk := D.nx } σ2 H2) := by
  refine ⟨fun i m σ H => m = min xs.length ys.length - i ∧ i ≤ min xs.length ys.length ∧ Pv i σ H, ⟨min xs.length ys.length, by simp, Nat.zero_le _, h0⟩, ?_⟩
  rintro i m σ H ⟨rfl, hi, p⟩
  obtain ⟨q1, q2⟩ := hl i σ H p
  by_cases hlt : i < min xs.length ys.length
  · have l1 : i < xs.length := by omega
    have l2 : i < ys.length := by omega
    refine .inr ⟨⟨xs, ys, xs[i], ys[i], q1, q2, by simp [l1], by simp [l2]⟩, Pv (i + 1), fun σ' H' p' => ⟨min xs.length ys.length - (i + 1), by omega, rfl, hlt, p'⟩, fun x H' y => ?_⟩
    obtain ⟨T, v, w, hT, rfl, rfl, y1, y2⟩ := y
    exact hs i v w σ H T (y1 xs q1) (y2 ys q2) p hT
  · have e : i = min xs.length ys.length := by omega
    subst e
    exact .inl ⟨⟨xs, ys, q1, q2, by omega⟩, hd σ H p⟩
end
section
variable {prog : Program} {w : World} {A : Around} {E : Value → Shared → Prop} {s : Shared}
open AutoSeq1 (wpAny_loadPart')
end
section
variable {X : Cx} {elts : List Expr} {kt : Nat} {pt : Pos} {K : PySem.W.Frag}
end
section
variable {K : PySem.W.Frag} {a : Addr} {c : Bool} {xs : List V} {g : TG} {tt : TT} {te : TE} {tb : TS} {D : Ends} {Q : VK} {σ : L2.St} {H : Hp}
end
end L3

namespace L3
open PySem PySem.Spec PyProof.Rows L2
section
variable {X : Cx}
variable {K : PySem.W.Frag}
theorem pg_tupK {es : List Expr} {k : Nat} {pos : Pos} {t : TGs} (n : Nat) (h0 : X.K = K) (hc : X.calm = true) (h : PGs X es t)
    (hn : (assignEach es X.env).length = n) (hst : (assignEach es X.env).findIdx? (·.1) = none) : PG X (.Tuple es k pos) (gTup K n t) := by subst h0; exact pg_tup hc h hn hst
theorem op_inK (h : X.K = K) : OpR X (compareOp .In) (rIn K false) := by subst h; exact op_in_seq
end
def InC (C : Int) (xs : List Int) : Prop := ∀ v ∈ xs, -C ≤ v ∧ v ≤ C
theorem InC.mono {B C : Int} {xs : List Int} (h : InC B xs) (hC : B ≤ C) : InC C xs := fun v hv => by have := h v hv; omega
theorem InC.inB {C : Int} {xs : List Int} (h : InC C xs) (hC : C < 2 ^ 300) : InB (2 ^ 300) xs := fun v hv => by have := h v hv; omega
end L3

namespace L3
open PySem PySem.Spec PyProof.Rows L2
theorem Deed.Bd.sh {d : Deed} {B : Int} {n : Nat} (h : d.Bd B) (hB : B ≤ 10 ^ 90) : Sh (deedD d) 5772 (n + 1) := sh_deedB (h.mono (Int.le_trans hB (by decide)))
theorem InC.sh {xs : List Int} {C : Int} {m n : Nat} (h : InC C xs) (hC : C ≤ 10 ^ 90) (l : xs.length ≤ m) : Sh (intsD xs) (m * 1923 + 3) (n + 1) :=
  (sh_ints (n := n) (h.inB (Int.lt_of_le_of_lt hC (by decide)))).mono (by have := Nat.mul_le_mul_right 1923 l; omega) (Nat.le_refl _)
end L3

namespace L3
open PySem PySem.Spec PyProof.Rows L2
theorem vals_ints : ∀ {ns : List Int} {us : List Value}, IntsAre us ns → Vals (ns.map V.int) us := by
  intro ns us h
  induction h with
  | nil => exact .nil
  | cons n t _ ih => exact .cons ⟨t, rfl⟩ ih
section
variable {X : Cx} {K : PySem.W.Frag}
theorem call_sortedL (hK : X.K = K) : CallR X (.builtin "sorted") (fun xs H Q => ∃ (l : Addr) (ns : List Int), xs = [.ref l] ∧ SqL K H l (ns.map V.int) ∧ ns.length < 64 ∧ ∀ (p : Addr) (ms : List Int), H p = none → ms.Perm ns → ms.Pairwise (· ≤ ·) → Q (.ref p) (upd H p (.lst (ms.map V.int)))) := by
  subst hK
  intro pins s σ H xs us Q I r h
  obtain ⟨l, ns, rfl, hl, h64, q⟩ := h
  obtain ⟨u, rfl, rx⟩ := vals1 r
  cases (show u = Value.ref l from rx)
  obtain ⟨vs, rv, pl, hz⟩ := I.list hl
  have hlen := rv.length
  rw [List.length_map] at hlen hz
  refine sorted_ints pl.isList (intsAre_of rv) (by omega) fun out ms i1 i2 i3 => ?_
  obtain ⟨e, he⟩ := sortedAll_at s.heap vs out
  have hn : H (s.heap.objs.size + 1) = none := I.hok.fresh (Nat.le_succ _)
  have rl := vals_ints i1
  refine ⟨.ref (s.heap.objs.size + 1), _, ?_, rfl, q _ ms hn i2 i3⟩
  refine I.laid (t' := s.toks) (fun b o q => sortedAll_old q) (Nat.le_succ _) (show ObjOk X.prog X.w _ _ _ (.lst (ms.map V.int)) from ⟨by rw [List.length_map, i2.length_eq]; exact hz, out.toList, e, rl, he⟩)
theorem fm_congr {α β : Type} {f g : α → Option β} : ∀ {l : List α}, (∀ x ∈ l, f x = g x) → l.filterMap f = l.filterMap g
  | [], _ => rfl
  | x :: xs, h => by rw [List.filterMap_cons, List.filterMap_cons, h x (by simp), fm_congr fun y hy => h y (List.mem_cons_of_mem _ hy)]
end
end L3

namespace L3
open PySem PySem.Spec PyProof.Rows L2
structure Wk (prog : Program) (w : World) (A : Around) (T : String) (I : Addr) (n : Nat) (Fr : Addr → Prop) (J : List Value → Shared → Prop) (Fn : List Value → Shared → Prop) : Prop where
  ty : ∀ acc s, J acc s → s.TypeIs (.ref I) T
  self : ∀ acc s (Q : Value → Shared → Prop) (E : Value → Shared → Prop), J acc s → Q (.ref I) s → wpAny (model prog w) A (pyIter (.ref I)) Q E s
  stay : ∀ acc s (S : Addr) (ob : Obj) (h' : Heap), J acc s → Fr S → s.heap.get? S = some ob → ob.cls = .type "list" → (∀ b o, b ≠ S → s.heap.get? b = some o → h'.get? b = some o) → h'.objs.size = s.heap.objs.size → J acc { s with heap := h' }
  next : ∀ acc s (S : Addr) (ob : Obj) (Q : Option Value → Shared → Prop) (E : Value → Shared → Prop), J acc s → Fr S → s.heap.get? S = some ob → ob.cls = .type "list" →
    (∀ v s', acc.length < n → J (acc ++ [v]) s' → s'.heap.get? S = some ob → Q (some v) s') → (∀ s', Fn acc s' → s'.heap.get? S = some ob → Q none s') → wpAny (model prog w) A (pyNext (.ref I)) Q E s
  push : ∀ acc s (o : Obj), J acc s → J acc { s with heap := s.heap.push o }
section
variable {prog : Program} {w : World} {A : Around} {R : Result → Shared → Prop} {T : String} {I : Addr} {n : Nat} {Fr : Addr → Prop} {J Fn : List Value → Shared → Prop}
end
section
variable {prog : Program} {w : World} {A : Around} {E : Value → Shared → Prop} {s : Shared} {T : String} {I : Addr} {n : Nat} {Fr : Addr → Prop} {J Fn : List Value → Shared → Prop}
end
end L3

namespace L3
open PySem PySem.Spec PyProof.Rows L2
section
variable {prog : Program} {w : World} {A : Around} {E : Value → Shared → Prop} {s : Shared}
end
section
variable {X : Cx} {pins : List (Addr × Obj)} {σ : L2.St} {H : Hp} {s : Shared} {h' : Heap}
end
end L3

namespace L3
open PySem PySem.Spec PyProof.Rows L2
section
variable {X : Cx} {pins : List (Addr × Obj)} {σ : L2.St} {H : Hp} {s0 : Shared} {K : PySem.W.Frag}
end
section
variable {X : Cx} {K : PySem.W.Frag} {a : Expr} {ta : TA} {p p2 pos pos2 : Pos}
end
end L3

namespace L3
open PySem PySem.Spec PyProof.Rows L2
section
variable {X : Cx} {K : PySem.W.Frag}
theorem op_neNil {k : Nat} (hK : X.K = K) (hr : Room k X.A) : OpR X (compareOp .NotEq) (fun x y H Q => ∃ a b xs, x = .ref a ∧ y = .ref b ∧ SqL K H a xs ∧ SqL K H b [] ∧ Q (.bl (!xs.isEmpty)) H) := by
  subst hK
  intro pins s σ H x y v u Q I rx ry h
  obtain ⟨a, b, xs, rfl, rfl, ha, hb, q⟩ := h
  cases rx; cases ry
  obtain ⟨us, r1, t1, _⟩ := I.list ha
  obtain ⟨ws, r2, t2, _⟩ := I.list hb
  have hw : ws.length = 0 := r2.length.symm
  by_cases hl : us.length = ws.length
  · refine SeqAt.RcNeAt.lists (e := fun _ => true) t1.isList t2.isList (by simpa using hl) hr.units0 (fun j h1 h2 => absurd h2 (by simp; omega)) _ _ _ _ ?_
    have e : xs = [] := List.length_eq_zero_iff.mp (by rw [r1.length]; omega)
    subst e
    have e2 : us = [] := List.length_eq_zero_iff.mp (by omega)
    subst e2
    exact ⟨.bl _, H, I, rfl, q⟩
  · refine SeqAt.RcNeAt.lists_lengths t1.isList t2.isList (by simpa using hl) hr.units0 _ _ _ _ ?_
    have e : xs.isEmpty = false := by
      cases xs with
      | nil => exact absurd (by rw [← r1.length, hw]; rfl) hl
      | cons _ _ => rfl
    rw [e] at q
    exact ⟨.bl _, H, I, rfl, q⟩
end
def PurseF (H : Hp) (a : Addr) : Prop := ∃ p0 c t : Int, H a = some (.lst [.int p0, .int c, .int t]) ∧ 0 ≤ p0
theorem PurseF.grow {H H' : Hp} {a : Addr} (p : PurseF H a) (g : Grow [] H H') : PurseF H' a := by
  obtain ⟨x, y, z, h, q⟩ := p
  exact ⟨x, y, z, g.keep _ _ (by simp) h, q⟩
theorem PurseF.new {H : Hp} {a l : Addr} (p : PurseF H a) (hl : H l = none) (o : HO) : PurseF (upd H l o) a := p.grow (Grow.new hl o)
theorem PurseF.ne {H : Hp} {a l : Addr} (p : PurseF H a) (h : H l = none) : l ∉ [a] := by
  intro z
  obtain ⟨x, y, w, hz, _⟩ := p
  rw [List.mem_singleton.mp z, hz] at h
  cases h
def sortI (ns : List Int) : List Int := ns.mergeSort fun a b => decide (a ≤ b)
theorem sortI_of {ms ns : List Int} (p : ms.Perm ns) (s : ms.Pairwise (· ≤ ·)) : ms = sortI ns := by
  refine PySem.W.ksm_same (p.trans (List.mergeSort_perm ns _).symm) s ?_
  have z := List.pairwise_mergeSort (le := fun a b : Int => decide (a ≤ b)) (fun a b c h1 h2 => decide_eq_true (Int.le_trans (of_decide_eq_true h1) (of_decide_eq_true h2))) (fun a b => by
    rcases Int.le_total a b with h | h
    · simp [h]
    · simp [h]) ns
  exact z.imp fun h => of_decide_eq_true h
def dupS : List Int → Option Int
  | a :: b :: r => if a = b then some a else dupS (b :: r)
  | _ => none
def levelL (rows : List (List Int)) (l : Nat) : List Int := rows.map fun r => r.getD l 0
def sharedAt (rows : List (List Int)) (l : Nat) : Option Int := dupS (sortI (levelL rows l))
def SharedIs (k : Nat) (rows : List (List Int)) (o : Option (Nat × Int)) : Prop := match o with
  | none => ∀ l, l ≤ k → sharedAt rows l = none
  | some (l, v) => l ≤ k ∧ sharedAt rows l = some v ∧ ∀ j, j < l → sharedAt rows j = none
theorem SharedIs.one {k : Nat} {rows rows' : List (List Int)} {o o' : Option (Nat × Int)} (e : ∀ l, sharedAt rows l = sharedAt rows' l) (h : SharedIs k rows o) (h' : SharedIs k rows' o') : o = o' := by
  cases o with
  | none =>
    cases o' with
    | none => rfl
    | some p =>
      obtain ⟨l, v⟩ := p
      have z := h l h'.1
      rw [e, h'.2.1] at z; cases z
  | some p =>
    obtain ⟨l, v⟩ := p
    cases o' with
    | none =>
      have z := h' l h.1
      rw [← e, h.2.1] at z; cases z
    | some p' =>
      obtain ⟨l', v'⟩ := p'
      obtain ⟨a1, a2, a3⟩ := h
      obtain ⟨b1, b2, b3⟩ := h'
      by_cases c : l < l'
      · have z := b3 l c
        rw [← e, a2] at z; cases z
      · by_cases c2 : l' < l
        · have z := a3 l' c2
          rw [e, b2] at z; cases z
        · have : l = l' := by omega
          subst this
          rw [e, b2] at a2
          cases a2; rfl
def ClashAt (K : PySem.W.Frag) (H : Hp) (x : V) (o : Option (Nat × Int)) : Prop := match o with
  | none => x = .non
  | some (l, v) => ∃ r, x = .ref r ∧ SqT K H r [.int l, .int v]
theorem Grow.clash {m : List Addr} {H H' : Hp} (g : Grow m H H') {K : PySem.W.Frag} {x : V} {o : Option (Nat × Int)} (h : ClashAt K H x o) : ClashAt K H' x o := by
  cases o with
  | none => exact h
  | some p =>
    obtain ⟨l, v⟩ := p
    obtain ⟨r, e, z⟩ := h
    exact ⟨r, e, g.sqT z⟩
end L3

namespace L3
open PySem PySem.Spec PyProof.Rows L2
mutual
inductive Dq (K : PySem.W.Frag) (H : Hp) : V → PyData → Prop
  | non : Dq K H .non .none
  | bl (b : Bool) : Dq K H (.bl b) (.bool b)
  | int (i : Int) : Dq K H (.int i) (.int i)
  | str (x : Str) : Dq K H (.str x) (.str x)
  | tup {a : Addr} {xs : List V} {ds : List PyData} : SqT K H a xs → DqAll K H xs ds → Dq K H (.ref a) (.tuple ds)
  | lst {a : Addr} {xs : List V} {ds : List PyData} : SqL K H a xs → DqAll K H xs ds → Dq K H (.ref a) (.list ds)
inductive DqAll (K : PySem.W.Frag) (H : Hp) : List V → List PyData → Prop
  | nil : DqAll K H [] []
  | cons {x : V} {xs : List V} {d : PyData} {ds : List PyData} : Dq K H x d → DqAll K H xs ds → DqAll K H (x :: xs) (d :: ds)
end
mutual
theorem Dat.dq {K : PySem.W.Frag} {H : Hp} : ∀ {x : V} {d : PyData}, Dat K H x d → Dq K H x d
  | _, _, .non => .non
  | _, _, .bl b => .bl b
  | _, _, .int i => .int i
  | _, _, .tup h t => .tup h (DatAll.dq t)
  | _, _, .lst h t => .lst h (DatAll.dq t)
theorem DatAll.dq {K : PySem.W.Frag} {H : Hp} : ∀ {xs : List V} {ds : List PyData}, DatAll K H xs ds → DqAll K H xs ds
  | _, _, .nil => .nil
  | _, _, .cons h t => .cons (Dat.dq h) (DatAll.dq t)
end
theorem DqAll.len {K : PySem.W.Frag} {H : Hp} : ∀ {xs : List V} {ds : List PyData}, DqAll K H xs ds → xs.length = ds.length
  | _, _, .nil => rfl
  | _, _, .cons _ t => congrArg (· + 1) (DqAll.len t)
theorem DqAll.app {K : PySem.W.Frag} {H : Hp} : ∀ {xs : List V} {ds : List PyData} {ys : List V} {es : List PyData}, DqAll K H xs ds → DqAll K H ys es → DqAll K H (xs ++ ys) (ds ++ es)
  | _, _, _, _, .nil, h => h
  | _, _, _, _, .cons h t, g => .cons h (DqAll.app t g)
theorem all_true (n : Nat) : (List.range n).all (fun _ => true) = true := List.all_eq_true.mpr fun _ _ => rfl
section
variable {X : Cx} {pins : List (Addr × Obj)} {σ : L2.St} {H : Hp} {s : Shared}
mutual
theorem dq_eq (I : Inv X pins σ H s) : ∀ {d : PyData} {x y : V} {u v : Value} {A : Around}, Dq X.K H x d → Dq X.K H y d → RelV x u → RelV y v → A.units + d.depth < cLine → SeqAt.EqAt A s u v true
  | _, _, y, u, v, A, .non, hy, ru, rv, _ => by
    cases hy
    cases (show u = Value.none from ru)
    cases (show v = Value.none from rv)
    exact SeqAt.EqAt.same _
  | _, _, y, u, v, A, .bl b, hy, ru, rv, _ => by
    cases hy
    cases (show u = Value.bool b from ru)
    cases (show v = Value.bool b from rv)
    exact SeqAt.EqAt.same _
  | _, _, y, u, v, A, .int i, hy, ru, rv, _ => by
    cases hy
    obtain ⟨t, rfl⟩ := ru
    obtain ⟨t', rfl⟩ := rv
    have z := SeqAt.EqAt.int_int (A := A) (s := s) i t i t'
    rw [beq_self_eq_true] at z
    exact z
  | _, _, y, u, v, A, .str x, hy, ru, rv, _ => by
    cases hy
    obtain ⟨t, rfl⟩ := ru
    obtain ⟨t', rfl⟩ := rv
    have z := SeqAt.EqAt.str_str (A := A) (s := s) x t x t'
    rw [beq_self_eq_true] at z
    exact z
  | _, _, y, u, v, A, .tup (a := a) (xs := xs) (ds := ds) hs ha, hy, ru, rv, hu => by
    cases hy with
    | tup hs' ha' =>
      rename_i a' xs'
      cases (show u = Value.ref a from ru)
      cases (show v = Value.ref a' from rv)
      obtain ⟨us, r1, t1, _⟩ := I.tuple hs
      obtain ⟨ws, r2, t2, _⟩ := I.tuple hs'
      have hd : A.units + (PyData.depthAll ds + 1) < cLine := hu
      by_cases e : a = a'
      · subst e; exact SeqAt.EqAt.same _
      · have l1 := ha.len
        have l2 := ha'.len
        have q := SeqAt.RcAt.tuples (e := fun _ => true) (isTuple_of t1) (isTuple_of t2) (by omega) (dqs_eq I ha ha' r1 r2 (A := A.in1) (by show A.units + 1 + PyData.depthAll ds < cLine; omega))
        rw [all_true, Bool.true_and, List.size_toArray, List.size_toArray, ← r1.length, ← r2.length, l1, l2, beq_self_eq_true] at q
        exact SeqAt.EqAt.of_refs e q
  | _, _, y, u, v, A, .lst (a := a) (xs := xs) (ds := ds) hs ha, hy, ru, rv, hu => by
    cases hy with
    | lst hs' ha' =>
      rename_i a' xs'
      cases (show u = Value.ref a from ru)
      cases (show v = Value.ref a' from rv)
      obtain ⟨us, r1, t1, _⟩ := I.list hs
      obtain ⟨ws, r2, t2, _⟩ := I.list hs'
      have hd : A.units + (PyData.depthAll ds + 1) < cLine := hu
      by_cases e : a = a'
      · subst e; exact SeqAt.EqAt.same _
      · have l1 := ha.len
        have l2 := ha'.len
        have q := SeqAt.RcAt.lists (e := fun _ => true) t1.isList t2.isList (by rw [List.size_toArray, List.size_toArray, ← r1.length, ← r2.length, l1, l2]) (by omega) (dqs_eq I ha ha' r1 r2 (A := A.in1) (by show A.units + 1 + PyData.depthAll ds < cLine; omega))
        rw [all_true] at q
        exact SeqAt.EqAt.of_refs e q
theorem dqs_eq (I : Inv X pins σ H s) : ∀ {ds : List PyData} {xs ys : List V} {us vs : List Value} {A : Around}, DqAll X.K H xs ds → DqAll X.K H ys ds → Vals xs us → Vals ys vs → A.units + PyData.depthAll ds < cLine →
    ∀ j (h1 : j < us.toArray.size) (h2 : j < vs.toArray.size), SeqAt.EqAt A s us.toArray[j] vs.toArray[j] true
  | _, _, _, _, _, A, .nil, hy, ru, rv, _ => fun j h1 _ => by
    cases ru
    exact absurd h1 (Nat.not_lt_zero j)
  | _, _, _, _, _, A, .cons (d := d) (ds := ds) hx tx, hy, ru, rv, hd => fun j h1 h2 => by
    cases hy with
    | cons hy ty =>
      cases ru with
      | cons r1 rr1 =>
        cases rv with
        | cons r2 rr2 =>
          have hd' : A.units + max d.depth (PyData.depthAll ds) < cLine := hd
          cases j with
          | zero => simpa using dq_eq I hx hy r1 r2 (A := A) (by omega)
          | succ j =>
            have z := dqs_eq I tx ty rr1 rr2 (A := A) (by omega) j (by simpa using h1) (by simpa using h2)
            simpa using z
end
variable {K : PySem.W.Frag}
def rSame (K : PySem.W.Frag) (neg : Bool) : R2 := fun x y H Q => ∃ d, Dq K H x d ∧ Dq K H y d ∧ (∃ a, x = .ref a) ∧ d.depth ≤ 100 ∧ Q (.bl neg) H
theorem op_neD {k : Nat} (hK : X.K = K) (hr : Room k X.A) : OpR X (compareOp .NotEq) (rSame K false) := by
  subst hK
  intro pins s σ H x y u v Q I rx ry h
  obtain ⟨d, hx, hy, ⟨a0, e0⟩, hd, q⟩ := h
  have hu := hr.un
  cases hx with
  | non => cases e0
  | bl b => cases e0
  | int i => cases e0
  | str x => cases e0
  | tup hs ha =>
    cases hy with
    | tup hs' ha' =>
      rename_i a xs ds a' xs'
      cases (show u = Value.ref a from rx)
      cases (show v = Value.ref a' from ry)
      obtain ⟨us, r1, t1, _⟩ := I.tuple hs
      obtain ⟨ws, r2, t2, _⟩ := I.tuple hs'
      have hd' : PyData.depthAll ds + 1 ≤ 100 := hd
      refine SeqAt.RcNeAt.tuples (e := fun _ => true) (isTuple_of t1) (isTuple_of t2) hr.units0 (dqs_eq I ha ha' r1 r2 (A := X.A.in1) (by show X.A.units + 1 + PyData.depthAll ds < cLine; omega)) _ _ _ _ ?_
      rw [all_true, Bool.true_and, List.size_toArray, List.size_toArray, ← r1.length, ← r2.length, ha.len, ha'.len, beq_self_eq_true]
      exact ⟨.bl false, H, I, rfl, q⟩
  | lst hs ha =>
    cases hy with
    | lst hs' ha' =>
      rename_i a xs ds a' xs'
      cases (show u = Value.ref a from rx)
      cases (show v = Value.ref a' from ry)
      obtain ⟨us, r1, t1, _⟩ := I.list hs
      obtain ⟨ws, r2, t2, _⟩ := I.list hs'
      have hd' : PyData.depthAll ds + 1 ≤ 100 := hd
      refine SeqAt.RcNeAt.lists (e := fun _ => true) t1.isList t2.isList (by rw [List.size_toArray, List.size_toArray, ← r1.length, ← r2.length, ha.len, ha'.len]) hr.units0 (dqs_eq I ha ha' r1 r2 (A := X.A.in1) (by show X.A.units + 1 + PyData.depthAll ds < cLine; omega)) _ _ _ _ ?_
      rw [all_true]
      exact ⟨.bl false, H, I, rfl, q⟩
end
end L3

namespace L3
open PySem PySem.Spec PyProof.Rows L2
def xN (k st a : Nat) : Nat := a ^^^ 2 ^ (k - st)
def nN (k st a : Nat) : Nat := (numsL k a st).toNat
def lN (k h g n : Nat) : Nat := (lineL k h g n).toNat
structure OneF (k st a : Nat) : Prop where
  sw : swI k st a = numsL k a st
  num : numsL k a st = (nN k st a : Int)
  lt : nN k st a < 2 ^ (k - 1)
  nx : nN k st (xN k st a) = nN k st a
  xx : xN k st (xN k st a) = a
  xne : xN k st a ≠ a
  xlt : xN k st a < 2 ^ k
  w0 : wfI k st a (Builtin.bitXor (figI k st a) 0) = (a : Int)
  w1 : wfI k st a (Builtin.bitXor (figI k st a) 1) = (xN k st a : Int)
  c1 : Builtin.bitXor (figI k st a) (figI k st (xN k st a)) = 1
  c0 : Builtin.bitXor (figI k st a) (figI k st a) = 0
  b0 : Builtin.bitXor (figI k st a) 0 = 0 ∨ Builtin.bitXor (figI k st a) 0 = 1
  b1 : Builtin.bitXor (figI k st a) 1 = 0 ∨ Builtin.bitXor (figI k st a) 1 = 1
theorem sortI_pm (ns : List Int) : (sortI ns).Perm ns := List.mergeSort_perm ns _
def plOf (gs : List Nat) : List (Nat × Nat) := (List.range gs.length).map fun h => (h, gs.getD h 0)
def SidesOk (k : Nat) (gs : List Nat) : Prop := gs.length = 2 ^ k ∧ ∀ g ∈ gs, g < 2 ^ k
theorem SidesOk.get {k : Nat} {gs : List Nat} (h : SidesOk k gs) {i : Nat} (hi : i < 2 ^ k) : gs.getD i 0 < 2 ^ k := by
  rw [List.getD_eq_getElem?_getD, List.getElem?_eq_getElem (by rw [h.1]; exact hi)]
  exact h.2 _ (List.getElem_mem _)
def crossI (k st : Nat) (q : Nat × Nat) : Int := Builtin.bitXor (figI k st (lineL k q.1 q.2 (st - 1))) (figI k st (lineL k q.1 q.2 st))
def marksF (k st : Nat) (m : List Int) (q : Nat × Nat) : List Int := m.set (nN k st (lN k q.1 q.2 st)) (crossI k st q)
def marksR (k st : Nat) (pl : List (Nat × Nat)) : List Int := pl.foldl (marksF k st) (List.replicate (2 ^ k / 2) 0)
def setsL (k : Nat) (gs : List Nat) : List (List Int) := (List.range k).map fun n => marksR k (n + 1) (plOf gs)
end L3

namespace L3
open PySem PySem.Spec PyProof.Rows L2
section
variable {X : Cx} {a : Expr} {ta : TA} {p p2 pos pos2 : Pos}
def tRngV (ta : TA) : TE := fun σ H Q => ta σ H fun vs H1 => ∃ n : Nat, vs = [.int n] ∧ n ≤ 1000 ∧ ∀ l, H1 l = none → Q (.ref l) (upd H1 l (.lst ((List.range n).map fun i : Nat => V.int i)))
theorem pe_listRange (hc : X.calm = true) (hgl : Gl X "list") (hml : X.mg "list" = none) (hgr : Gl X "range") (hmr : X.mg "range" = none) (ha : PA X [a] ta)
    (hs : starEach [a] X.env = [(false, eval a X.env)] := by rfl) (hs2 : starEach [(.Call (.Name "range" p2) [a] [] pos2 : Expr)] X.env = [(false, eval (.Call (.Name "range" p2) [a] [] pos2) X.env)] := by rfl) :
    PE X (.Call (.Name "list" p) [.Call (.Name "range" p2) [a] [] pos2] [] pos) (tRngV ta) := by
  intro pins s σ H Q I h
  refine wpAny_Call_Name_kw (ld_blt I hgl hml b_list (PyProof.Rows.callWith_type1 ?_ hs2 rfl))
  rw [hs2]
  show wpAny _ _ (spliced [(false, eval (.Call (.Name "range" p2) [a] [] pos2) X.env)]) _ _ s
  refine Calls.spliced_cons ?_
  refine Call_ (ld_blt I hgr hmr boot_range (PyProof.Rows.callWith_type1 (thn (ha pos2 pins s σ H _ I h) fun us s1 ⟨vs, H1, I1, r1, q1⟩ => ?_) hs rfl))
  obtain ⟨n, e, hn, q⟩ := q1
  subst e
  obtain ⟨u, rfl, e1⟩ := vals1 r1
  obtain ⟨t, rfl⟩ := e1
  refine call_range_1 (Calls.spliced_nil ?_)
  have I2 : Inv X pins σ H1 { s1 with heap := s1.heap.push { cls := .type "range", data := .fields #[.int 0 s1.toks, .int n t, .int 1 (s1.toks + 1)] }, toks := s1.toks + 1 + 1 } := I1.kept fun b o e => Heap.get?_push_of_some _ e
  refine call_list_range (n := n) (I.ok.hd hc) (IsRange.new ..) (small_one (by omega) (by omega) (by omega) (by omega)) (by rw [rangeSize_one]; split <;> omega) (by omega) fun h' tk acc c' hk hS hacc => ?_
  have hvr : Vals ((List.range n).map fun i : Nat => V.int i) acc.toList := by
    have hlen : acc.toList.length = n := by rw [Array.length_toList]; exact hacc.1
    have key : ∀ (m : Nat) (l : List Value) (j : Nat), l.length = m → (∀ i v, l[i]? = some v → ∃ t, v = Value.int ((j + i : Nat) : Int) t) → Vals ((List.range' j m).map fun i : Nat => V.int i) l := by
      intro m
      induction m with
      | zero =>
        intro l j hl _
        rw [List.length_eq_zero_iff.mp hl]
        exact .nil
      | succ m ih =>
        intro l j hl hv
        match l, hl, hv with
        | x :: l, hl, hv =>
          refine .cons ?_ (ih l (j + 1) (by simpa using hl) fun i v h => ?_)
          · obtain ⟨t, e⟩ := hv 0 x rfl
            exact ⟨t, e⟩
          · obtain ⟨t, e⟩ := hv (i + 1) v (by simpa using h)
            exact ⟨t, by rw [e, show j + (i + 1) = j + 1 + i by omega]⟩
    rw [List.range_eq_range']
    refine key n acc.toList 0 hlen fun i v h => ?_
    obtain ⟨t, e⟩ := hacc.2 i v (by rw [← h]; exact (Array.getElem?_toList).symm)
    exact ⟨t, by rw [e]; congr 1; omega⟩
  refine ⟨.ref (s1.heap.push { cls := .type "range", data := .fields #[.int 0 s1.toks, .int n t, .int 1 (s1.toks + 1)] }).objs.size, _, I2.laid (t' := tk) hk (Nat.le_refl _) (show ObjOk X.prog X.w _ h' _ (.lst ((List.range n).map fun i : Nat => V.int i)) from ⟨by rw [List.length_map, List.length_range]; exact Nat.le_of_lt (small1000 hn), acc.toList, c', hvr, by simpa using hS⟩), rfl, q _ (I2.hok.fresh (Nat.le_refl _))⟩
end
end L3

namespace L3
open PySem PySem.Spec PyProof.Rows L2
def natsV (gs : List Nat) : List V := gs.map fun g : Nat => V.int g
theorem natsV_ints {gs : List Nat} : natsV gs = (gs.map fun g : Nat => (g : Int)).map V.int := by unfold natsV; rw [List.map_map]; rfl
def AnsAt (K : PySem.W.Frag) (H : Hp) (x : V) (k : Nat) (gs : List Nat) (o : Option (Nat × Int)) : Prop := ∃ (r : Addr) (s : Str) (y : V), x = .ref r ∧ SqT K H r [.str s, y] ∧ match o with
  | none => s = "settings" ∧ RowsAt K H y (setsL k gs)
  | some (l, v) => s = "clash" ∧ ∃ c, y = .ref c ∧ SqT K H c [.int l, .int v]
theorem Grow.ans {m : List Addr} {H H' : Hp} (g : Grow m H H') {K : PySem.W.Frag} {x : V} {k : Nat} {gs : List Nat} {o : Option (Nat × Int)} (h : AnsAt K H x k gs o) : AnsAt K H' x k gs o := by
  obtain ⟨r, s, y, e, z, w⟩ := h
  refine ⟨r, s, y, e, g.sqT z, ?_⟩
  cases o with
  | none => exact ⟨w.1, g.rows w.2⟩
  | some p =>
    obtain ⟨l, v⟩ := p
    obtain ⟨w1, c, e, z⟩ := w
    exact ⟨w1, c, e, g.sqT z⟩
theorem SidesOk.set {k : Nat} {gs : List Nat} (h : SidesOk k gs) {j n : Nat} (hn : n < 2 ^ k) : SidesOk k (gs.set j n) := by
  refine ⟨by rw [List.length_set, h.1], fun g hg => ?_⟩
  rcases List.mem_or_eq_of_mem_set hg with z | rfl
  · exact h.2 g z
  · exact hn
end L3

namespace L3
open PySem PySem.Spec PyProof.Rows L2
section
variable {prog : Program} {w : World} {A : Around} {E : Value → Shared → Prop} {s : Shared}
end
section
variable {X : Cx} {K : PySem.W.Frag}
end
end L3

namespace L3
open PySem PySem.Spec PyProof.Rows L2
section
variable {prog : Program} {w : World} {A : Around} {E : Value → Shared → Prop} {s : Shared}
end
section
variable {X : Cx} {K : PySem.W.Frag}
end
end L3

namespace L3
open PySem PySem.Spec PyProof.Rows L2
def wfN (k s l : Nat) (w : Int) : Nat := (wfI k s l w).toNat
structure WfF (k s l : Nat) (w : Int) : Prop where
  eq : wfI k s l w = (wfN k s l w : Int)
  lt : wfN k s l w < 2 ^ k
  at_ : figI k s (wfN k s l w) = w
  off : ∀ t : Nat, t ≤ k → t ≠ s → figI k t (wfN k s l w) = figI k t l
def mixN (k e x t : Nat) : Nat := (numL ((figsL k e).take (t - 1) ++ (figsL k x).drop t)).toNat
def fstI (rows : List (List Int)) (t n : Nat) : Int := (rows.getD (t - 1) []).getD n 0
def Ahead (k : Nat) (rows : List (List Int)) (e m x y : Nat) : Prop := ∃ t : Nat, m < t ∧ t ≤ k ∧ figI k t x ≠ figI k t y ∧ (∀ u : Nat, t < u → u ≤ k → figI k u x = figI k u y) ∧ figI k t x = fstI rows t (mixN k e x t)
structure OrdF (k : Nat) (rows : List (List Int)) (e n : Nat) (L : List Nat) : Prop where
  len : L.length = 2 ^ n
  mem : ∀ x ∈ L, x < 2 ^ k ∧ ∀ t : Nat, 1 ≤ t → t ≤ k - n → figI k t x = figI k t e
  all : ∀ x : Nat, x < 2 ^ k → (∀ t : Nat, 1 ≤ t → t ≤ k - n → figI k t x = figI k t e) → x ∈ L
  row : L.Pairwise (Ahead k rows e (k - n))
end L3

namespace L3
open PySem PySem.Spec PyProof.Rows L2
section
variable {lo : Int} {n k : Nat} {tt : TT} {te : TE} {Q : VK} {σ : L2.St} {H : Hp}
end
end L3

namespace L3
open PySem PySem.Spec PyProof.Rows L2
def LsR (H : Hp) (x : V) (row : List Int) : Prop := ∃ r, x = .ref r ∧ H r = some (.lst (row.map V.int))
def LsB (H : Hp) (x : V) (rows : List (List Int)) : Prop := ∃ l xs, x = .ref l ∧ H l = some (.lst xs) ∧ AllR (LsR H) xs rows
def LsN (a : Addr) (H : Hp) (x : V) (row : List Int) : Prop := ∃ r, x = .ref r ∧ r ∉ [a] ∧ H r = some (.lst (row.map V.int))
def LsA (a : Addr) (H : Hp) (x : V) (rows : List (List Int)) : Prop := ∃ l xs, x = .ref l ∧ l ∉ [a] ∧ H l = some (.lst xs) ∧ AllR (LsN a H) xs rows
theorem LsA.b {a : Addr} {H : Hp} {x : V} {rows : List (List Int)} (h : LsA a H x rows) : LsB H x rows := by
  obtain ⟨l, xs, e, n, z, w⟩ := h
  exact ⟨l, xs, e, z, w.imp fun _ _ ⟨r, e, _, z⟩ => ⟨r, e, z⟩⟩
end L3

namespace L3
open PySem PySem.Spec PyProof.Rows L2
end L3

namespace L3
open PySem PySem.Spec PyProof.Rows L2
section
variable {X : Cx}
end
end L3
namespace L3
open PySem PySem.Spec PyProof.Rows L2
def sp_cell (K : PySem.W.Frag) : Sp := sp2 fun x y H Q => ∃ a ns k, x = .ref a ∧ y = .int k ∧ Scr K H a ns ∧ 0 ≤ k ∧ ∀ n, Q (.int n) H
end L3

namespace L3
open PySem PySem.Spec PyProof.Rows L2
section
variable {X : Cx}
theorem get_list {K : PySem.W.Frag} (hK : X.K = K) : PGet X (fun x y H Q => ∃ (p : Addr) (xs : List V) (j : Nat) (v : V), x = .ref p ∧ y = .int j ∧ SqL K H p xs ∧ xs[j]? = some v ∧ Q v H) := by
  subst hK
  intro pins s σ H o i ov iv Q I ro ri h
  obtain ⟨p, xs, j, z, rfl, rfl, hq, he, q⟩ := h
  cases ro
  obtain ⟨t, rfl⟩ := ri
  obtain ⟨its, r, pl, hz⟩ := I.list hq
  obtain ⟨w, ew, rw'⟩ := r.get he
  have hn := line63
  have hlen := r.length
  have hj : j < its.length := (List.getElem?_eq_some_iff.mp ew).1
  exact wpAny_getItem_list pl.isList (by omega) (by omega) (by simpa using ew) ⟨z, H, I, rw', q⟩
end
end L3

namespace L3
open PySem PySem.Spec PyProof.Rows L2
theorem flat_rep {α : Type} {n : Nat} {x : α} : (List.replicate n [x]).flatten = List.replicate n x := by
  induction n with
  | zero => rfl
  | succ n ih => rw [List.replicate_succ, List.flatten_cons, ih, List.replicate_succ]; rfl
end L3

namespace L3
open PySem PySem.Spec PyProof.Rows L2
theorem ext_tupG (l : Addr) (us : Array Value) (n : Nat) (b : Addr) (ws : Array Value) (m : Nat) (od : Option Addr) (sl : Array (Option Value)) (h0 : ¬(!us.isEmpty && Builtin.List.listTooLong (us.size + ws.size)) = true) (h1 : us.size ≤ sizeLine) (h2 : us.size + ws.size ≤ sizeLine + 1) :
    Meets (Builtin.«list.extend» ⟨[.ref l, .ref b], []⟩) (fun _ R s => s.heap.get? l = some ⟨.type "list", none, .seq us n, #[]⟩ ∧ s.heap.get? b = some ⟨.type "tuple", od, .seq ws m, sl⟩ ∧ R (.ok (.ret Value.none)) { s with heap := s.heap.update l (Obj.mapSeq fun x => x ++ ws), toks := s.toks }) :=
  .of_wp fun P w A R s h => by
    obtain ⟨hh, gg, dd, tk, os⟩ := s
    obtain ⟨eL, eT, q⟩ := h
    have k1 := PySem.AutoSeq1.sub_tuple_tuple
    have k2 := PySem.AutoSeq1.sub_list_list
    have k3 := PySem.AutoSeq1.sub_tuple_list
    have k4 := PySem.AutoSeq1.sub_list_tuple
    have zz : (us ++ ws).size ≤ sizeLine + 1 := by
      rw [Array.size_append]
      exact h2
    wp_walk using (wpAny_updateSeq eL rfl (hz := h1) (_hz' := zz)), PySem.AutoSeq1.wpAny_loadPart' eL, PySem.AutoSeq1.wpAny_loadPart' eT
    exact ⟨_, rfl, q⟩
section
variable {X : Cx} {K : PySem.W.Frag}
theorem mt_extendT (hK : X.K = K) : MtM X "list.extend" (fun x vs H Q => ∃ l b xs zs, x = .ref l ∧ vs = [.ref b] ∧ H l = some (.lst xs) ∧ SqT K H b zs ∧ xs.length + zs.length ≤ sizeLine ∧ Q .non (upd H l (.lst (xs ++ zs)))) := by
  subst hK
  intro pins s σ H x vs v us Q I rx rv h
  obtain ⟨l, b, xs, zs, rfl, rfl, hH, hB, hz, q⟩ := h
  cases rx
  obtain ⟨u, rfl, ru⟩ := rv.one
  cases ru
  obtain ⟨z, its, n, r, hl, e⟩ := I.lstM hH
  obtain ⟨its2, r2, ⟨o, e2, oc, n2, od⟩, z2⟩ := I.tuple hB
  have hl2 := r2.length
  have hsz : its.toArray.size + its2.toArray.size ≤ sizeLine := by rw [List.size_toArray, List.size_toArray]; omega
  have hlong : ¬ (!its.toArray.isEmpty && Builtin.List.listTooLong (its.toArray.size + its2.toArray.size)) = true := by
    rw [notLongL hsz, Bool.and_false]
    exact Bool.false_ne_true
  obtain ⟨ocl, odd, oda, osl⟩ := o
  cases oc
  cases od
  refine call_meets F.slot_list_extend ⟨_, e, rfl⟩ F.entry_list_extend (F.args_list_extend_2 _ _)
    (ext_tupG l its.toArray n b its2.toArray n2 odd osl hlong (by rw [List.size_toArray]; omega) (by omega)) ⟨e, e2, ?_⟩
  refine ⟨.non, _, I.lset (its' := its ++ its2) hH e (by simp) (r.append r2) ?_, rfl, q⟩
  rw [List.length_append]
  omega
end
end L3

namespace L3
open PySem PySem.Spec PyProof.Rows L2
abbrev IsZp (h : Heap) (z TI TO : Addr) (f0 f1 : Value) : Prop := h.get? z = some ⟨.type "zip", none, .fields #[f0, f1, .bool false, .ref TI, .ref TO], #[]⟩
def FreeT (h : Heap) (f0 : Value) : Prop := f0 = .none ∨ ∃ a t, f0 = .int a t ∧ h.get? a.toNat = none
def HeldT (h : Heap) (f0 : Value) : Prop := ∃ a t o, f0 = .int a t ∧ h.get? a.toNat = some o
section
variable {prog : Program} {w : World} {A : Around} {E : Value → Shared → Prop} {s : Shared}
theorem zp_f0 {h : Heap} {z TI TO : Addr} {f0 f1 : Value} (hz : IsZp h z TI TO f0 f1) (v : Value) : IsZp (h.update z (Obj.mapFields fun x => x.setIfInBounds 0 v)) z TI TO v f1 ∧ Heap.SameBut z h (h.update z (Obj.mapFields fun x => x.setIfInBounds 0 v)) :=
  ⟨Heap.get?_update_self _ hz rfl, Heap.SameBut.update ..⟩
theorem zp_f1 {h : Heap} {z TI TO : Addr} {f0 f1 : Value} (hz : IsZp h z TI TO f0 f1) (v : Value) : IsZp (h.update z (Obj.mapFields fun x => x.setIfInBounds 1 v)) z TI TO f0 v ∧ Heap.SameBut z h (h.update z (Obj.mapFields fun x => x.setIfInBounds 1 v)) :=
  ⟨Heap.get?_update_self _ hz rfl, Heap.SameBut.update ..⟩
theorem look_alive {M : Model} {a : Addr} {Q : Option Obj → Shared → Prop} (h : Q (s.heap.get? a) s) : wpAny M A (loadIfAlive a) Q E s := fun _ _ _ => h
theorem free_go {z TI TO : Addr} {f0 f1 : Value} {Q : Bool → Shared → Prop} (hz : IsZp s.heap z TI TO f0 f1) (hf : FreeT s.heap f0) (h : Q true s) : wpAny (model prog w) A (Builtin.SmallTypes.ownedTupleIsFree (.ref z)) Q E s := by
  unfold Builtin.SmallTypes.ownedTupleIsFree
  rcases hf with rfl | ⟨a, t, rfl, e⟩
  · exact wpAny_bind (wpAny_field hz rfl (x := .none) rfl (wpAny_pure h))
  · refine wpAny_bind (wpAny_field hz rfl (x := .int a t) rfl ?_)
    refine wpAny_bind (look_alive ?_)
    rw [e]
    exact wpAny_pure h
theorem held_go {z TI TO : Addr} {f0 f1 : Value} {Q : Bool → Shared → Prop} (hz : IsZp s.heap z TI TO f0 f1) (hf : HeldT s.heap f0) (h : ∀ h', IsZp h' z TI TO f0 (.bool true) → Heap.SameBut z s.heap h' → Q false { s with heap := h' }) :
    wpAny (model prog w) A (Builtin.SmallTypes.ownedTupleIsFree (.ref z)) Q E s := by
  unfold Builtin.SmallTypes.ownedTupleIsFree
  obtain ⟨a, t, o, rfl, e⟩ := hf
  refine wpAny_bind (wpAny_field hz rfl (x := .int a t) rfl ?_)
  refine wpAny_bind (look_alive ?_)
  rw [e]
  refine wpAny_bind (wpAny_field hz rfl (x := f1) rfl ?_)
  by_cases c : f1 = .bool true
  · subst c
    exact wpAny_pure (h _ hz ⟨rfl, fun _ _ => rfl⟩)
  · obtain ⟨hz2, sb⟩ := zp_f1 hz (.bool true)
    dsimp only
    rw [if_pos (by simpa using c)]
    exact wpAny_bind (wpAny_setField hz rfl (by show 1 < 5; decide) (wpAny_pure (h _ hz2 sb)))
theorem zip_itemF {z TI TO i1 i2 : Addr} {fp1 fp2 : List Addr} {n1 n2 i : Nat} {P1 P2 : Nat → Value → Prop} {St1 St2 : Nat → Heap → Prop} {a b f0 f1 : Value} {Q : Value → Shared → Prop}
    (D1 : Draws prog w A i1 fp1 n1 P1 St1) (D2 : Draws prog w A i2 fp2 n2 P2 St2)
    (hz : IsZp s.heap z TI TO f0 f1) (hfr : FreeT s.heap f0) (hI : IsPair s.heap TI (.ref i1) (.ref i2)) (hO : IsPair s.heap TO a b) (st1 : St1 i s.heap) (st2 : St2 i s.heap) (l1 : i < n1) (l2 : i < n2)
    (z1 : z ∉ fp1) (z2 : z ∉ fp2) (o1 : TO ∉ fp1) (o2 : TO ∉ fp2) (x12 : i2 ∉ fp1) (x21 : i1 ∉ fp2) (iz1 : i1 ≠ z) (iz2 : i2 ≠ z) (io1 : i1 ≠ TO) (io2 : i2 ≠ TO) (oz : TO ≠ z) (tz : TI ≠ z) (tO : TI ≠ TO) (ti1 : TI ≠ i1) (ti2 : TI ≠ i2)
    (hQ : ∀ x y h' tk, P1 i x → P2 i y → IsZp h' z TI TO (rawInt s.heap.objs.size) (.bool false) → IsPair h' TI (.ref i1) (.ref i2) → IsPair h' TO x y → St1 (i + 1) h' → St2 (i + 1) h' → IsPair h' s.heap.objs.size x y → h'.objs.size = s.heap.objs.size + 1 →
      (∀ c o, c ≠ z → c ≠ TO → c ≠ i1 → c ≠ i2 → s.heap.get? c = some o → h'.get? c = some o) → Q (.ref s.heap.objs.size) { s with heap := h', toks := tk }) :
    wpAny (model prog w) A (Builtin.«zip.__next__» { pos := [.ref z] }) (fun fin s' => ∃ v, fin = Fin.done (Flow.ret v) ∧ Q v s') E s := by
  show wpAny _ _ (field (.ref z) 2 >>= _) _ _ s
  refine wpAny_bind (wpAny_field hz rfl (x := .bool false) rfl ?_)
  show wpAny _ _ (field (.ref z) 3 >>= _) _ _ s
  refine wpAny_bind (wpAny_field hz rfl (x := .ref TI) rfl ?_)
  show wpAny _ _ (seqItems? (.ref TI) >>= _) _ _ s
  refine wpAny_bind (wpAny_seqItems hI rfl ?_)
  show wpAny _ _ (Builtin.SmallTypes.ownedTupleIsFree (.ref z) >>= _) _ _ s
  refine wpAny_bind (free_go hz hfr ?_)
  show wpAny _ _ (rule _ >>= _) _ _ s
  refine wpAny_bind (wpAny_rule ?_)
  show wpAny _ _ (field (.ref z) 4 >>= _) _ _ s
  refine wpAny_bind (wpAny_field hz rfl (x := .ref TO) rfl ?_)
  show wpAny _ _ (setField (.ref z) 0 .ellipsis >>= _) _ _ s
  refine wpAny_bind (wpAny_setField hz rfl (by show 0 < 5; decide) ?_)
  obtain ⟨hz0, sb0⟩ := zp_f0 hz .ellipsis
  revert hz0 sb0
  generalize s.heap.update z (Obj.mapFields fun x => x.setIfInBounds 0 Value.ellipsis) = h0
  intro hz0 sb0
  have no : ∀ b, b ≠ z → ∀ o, s.heap.get? b = some o → h0.get? b = some o := fun b hb o e => (sb0.2 b hb).trans e
  refine wpAny_bind ?_
  show wpAny _ _ (forIn [(Value.ref i1, 0), (Value.ref i2, 1)] (none, ()) _) _ _ _
  rw [List.forIn_cons]
  refine wpAny_bind (wpAny_bind (wpAny_onRaise ?_))
  show wpAny _ _ (Builtin.SmallTypes.nextOf (.ref i1) >>= fun x => pure (some x)) _ _ _
  refine wpAny_bind (D1.item i { s with heap := h0 } _ _ l1 (D1.frame _ _ _ st1 fun b hb o e => no b (fun q => z1 (q ▸ hb)) o e) fun x h1 tk1 p1 st1' sb1 => wpAny_pure ?_)
  have hO1 : IsPair h1 TO a b := (sb1.2 TO (Ne.symm io1)).trans (no TO oz _ hO)
  show wpAny _ _ (seqItems? (.ref TO) >>= _) _ _ _
  refine wpAny_bind (wpAny_seqItems (s := { s with heap := h1, toks := tk1 }) hO1 rfl ?_)
  show wpAny _ _ (updateSeq TO _ >>= _) _ _ _
  refine wpAny_bind (wpAny_updateSeq (s := { s with heap := h1, toks := tk1 }) hO1 rfl ?_)
  obtain ⟨hO2, sb2⟩ := pair_0 hO1 x
  revert hO2 sb2
  show IsPair (h1.update TO (Obj.mapSeq fun q => q.setIfInBounds 0 x)) TO x b → Heap.SameBut TO h1 (h1.update TO (Obj.mapSeq fun q => q.setIfInBounds 0 x)) → wpAny _ _ _ _ _ { s with heap := h1.update TO (Obj.mapSeq fun q => q.setIfInBounds 0 x), toks := tk1 }
  generalize h1.update TO (Obj.mapSeq fun q => q.setIfInBounds 0 x) = h2
  intro hO2 sb2
  refine wpAny_bind (wpAny_letGo (wpAny_pure ?_))
  show wpAny _ _ (forIn [(Value.ref i2, 1)] (none, ()) _) _ _ _
  rw [List.forIn_cons]
  refine wpAny_bind (wpAny_bind (wpAny_onRaise ?_))
  show wpAny _ _ (Builtin.SmallTypes.nextOf (.ref i2) >>= fun x => pure (some x)) _ _ _
  have k2 : ∀ c o, c ≠ z → c ≠ TO → c ≠ i1 → s.heap.get? c = some o → h2.get? c = some o := fun c o c1 c2 c3 e => (sb2.2 c c2).trans ((sb1.2 c c3).trans (no c c1 o e))
  refine wpAny_bind (D2.item i { s with heap := h2, toks := tk1 } _ _ l2 (D2.frame _ _ _ st2 fun c hc o e => k2 c o (fun q => z2 (q ▸ hc)) (fun q => o2 (q ▸ hc)) (fun q => x21 (q ▸ hc)) e) fun y h3 tk3 p2 st2' sb3 => wpAny_pure ?_)
  have hO3 : IsPair h3 TO x b := (sb3.2 TO (Ne.symm io2)).trans hO2
  show wpAny _ _ (seqItems? (.ref TO) >>= _) _ _ _
  refine wpAny_bind (wpAny_seqItems (s := { s with heap := h3, toks := tk3 }) hO3 rfl ?_)
  show wpAny _ _ (updateSeq TO _ >>= _) _ _ _
  refine wpAny_bind (wpAny_updateSeq (s := { s with heap := h3, toks := tk3 }) hO3 rfl ?_)
  obtain ⟨hO4, sb4⟩ := pair_1 hO3 y
  revert hO4 sb4
  show IsPair (h3.update TO (Obj.mapSeq fun q => q.setIfInBounds 1 y)) TO x y → Heap.SameBut TO h3 (h3.update TO (Obj.mapSeq fun q => q.setIfInBounds 1 y)) → wpAny _ _ _ _ _ { s with heap := h3.update TO (Obj.mapSeq fun q => q.setIfInBounds 1 y), toks := tk3 }
  generalize h3.update TO (Obj.mapSeq fun q => q.setIfInBounds 1 y) = h4
  intro hO4 sb4
  refine wpAny_bind (wpAny_letGo (wpAny_pure ?_))
  show wpAny _ _ (forIn [] (none, ()) _) _ _ _
  rw [List.forIn_nil]
  refine wpAny_pure ?_
  show wpAny _ _ (seqItems? (.ref TO) >>= _) _ _ _
  refine wpAny_bind (wpAny_seqItems (s := { s with heap := h4, toks := tk3 }) hO4 rfl ?_)
  show wpAny _ _ (newTuple [x, y] >>= _) _ _ _
  refine wpAny_bind ?_
  simp only [newTuple]
  have k4 : ∀ c o, c ≠ z → c ≠ TO → c ≠ i1 → c ≠ i2 → s.heap.get? c = some o → h4.get? c = some o := fun c o c1 c2 c3 c4 e => (sb4.2 c c2).trans ((sb3.2 c c4).trans (k2 c o c1 c2 c3 e))
  have hz4 : IsZp h4 z TI TO .ellipsis f1 := (sb4.2 z (Ne.symm oz)).trans ((sb3.2 z (Ne.symm iz2)).trans ((sb2.2 z (Ne.symm oz)).trans ((sb1.2 z (Ne.symm iz1)).trans hz0)))
  have s1' : St1 (i + 1) h4 := D1.frame _ _ _ st1' fun c hc o e => (sb4.2 c (fun q => o1 (q ▸ hc))).trans ((sb3.2 c (fun q => x12 (q ▸ hc))).trans ((sb2.2 c (fun q => o1 (q ▸ hc))).trans e))
  have s2' : St2 (i + 1) h4 := D2.frame _ _ _ st2' fun c hc o e => (sb4.2 c (fun q => o2 (q ▸ hc))).trans e
  have sz4 : h4.objs.size = s.heap.objs.size := by rw [sb4.1, sb3.1, sb2.1, sb1.1, sb0.1]
  refine wpAny_newObj_type ?_ (by size_fits)
  have hz5 : IsZp (h4.push { cls := .type "tuple", data := .seq #[x, y] }) z TI TO .ellipsis f1 := Heap.get?_push_of_some _ hz4
  have hT5 : IsPair (h4.push { cls := .type "tuple", data := .seq #[x, y] }) h4.objs.size x y := Heap.get?_push_size _ rfl
  have sz5 : (h4.push { cls := .type "tuple", data := .seq #[x, y] }).objs.size = h4.objs.size + 1 := Heap.size_push ..
  have k5 : ∀ c o, h4.get? c = some o → (h4.push { cls := .type "tuple", data := .seq #[x, y] }).get? c = some o := fun c o e => Heap.get?_push_of_some _ e
  show wpAny _ _ _ _ _ { s with heap := h4.push { cls := .type "tuple", data := .seq #[x, y] }, toks := tk3 }
  revert hz5 hT5 sz5 k5
  generalize h4.push { cls := .type "tuple", data := .seq #[x, y] } = h5
  intro hz5 hT5 sz5 k5
  show wpAny _ _ (Builtin.SmallTypes.ownedTupleHandOut (.ref z) (.ref h4.objs.size) >>= fun _ => pure (Fin.done (Flow.ret (.ref h4.objs.size)))) _ _ _
  rw [sz4] at hT5 sz5 ⊢
  refine wpAny_bind ?_
  show wpAny _ _ (setField (.ref z) 0 (rawInt s.heap.objs.size) >>= fun _ => setField (.ref z) 1 (.bool false)) _ _ _
  refine wpAny_bind (wpAny_setField (s := { s with heap := h5, toks := tk3 }) hz5 rfl (by show 0 < 5; decide) ?_)
  obtain ⟨hz6, sb6⟩ := zp_f0 hz5 (rawInt s.heap.objs.size)
  obtain ⟨hz7, sb7⟩ := zp_f1 hz6 (.bool false)
  refine wpAny_setField hz6 rfl (by show 1 < 5; decide) (wpAny_pure ⟨_, rfl, ?_⟩)
  have k7 : ∀ c o, c ≠ z → h4.get? c = some o → ((h5.update z (Obj.mapFields fun x => x.setIfInBounds 0 (rawInt s.heap.objs.size))).update z (Obj.mapFields fun x => x.setIfInBounds 1 (.bool false))).get? c = some o := fun c o c1 e => (sb7.2 c c1).trans ((sb6.2 c c1).trans (k5 c o e))
  have nT : s.heap.objs.size ≠ z := Nat.ne_of_gt (Heap.lt_size hz)
  exact hQ x y _ tk3 p1 p2 hz7 (k7 TI _ tz (k4 TI _ tz tO ti1 ti2 hI)) (k7 TO _ oz hO4) (D1.frame _ _ _ s1' fun c hc o e => k7 c o (fun q => z1 (q ▸ hc)) e) (D2.frame _ _ _ s2' fun c hc o e => k7 c o (fun q => z2 (q ▸ hc)) e) ((sb7.2 _ nT).trans ((sb6.2 _ nT).trans hT5)) (by rw [sb7.1, sb6.1, sz5]) fun c o c1 c2 c3 c4 e => k7 c o c1 (k4 c o c1 c2 c3 c4 e)
theorem zip_endF1 {z TI TO i1 i2 : Addr} {fp1 : List Addr} {n1 : Nat} {P1 : Nat → Value → Prop} {St1 : Nat → Heap → Prop} {a b f0 f1 : Value} {Q : Fin → Shared → Prop}
    (D1 : Draws prog w A i1 fp1 n1 P1 St1)
    (hz : IsZp s.heap z TI TO f0 f1) (hfr : FreeT s.heap f0) (hI : IsPair s.heap TI (.ref i1) (.ref i2)) (hO : IsPair s.heap TO a b) (st1 : St1 n1 s.heap)
    (z1 : z ∉ fp1) (iz1 : i1 ≠ z)
    (hE : ∀ h' e tk, (∀ c o, c ≠ z → c ≠ TO → c ≠ i1 → c ≠ i2 → s.heap.get? c = some o → h'.get? c = some o) → (∃ o, h'.get? e = some o ∧ o.cls = .type "StopIteration") → E (.ref e) { s with heap := h', toks := tk }) :
    wpAny (model prog w) A (Builtin.«zip.__next__» { pos := [.ref z] }) Q E s := by
  show wpAny _ _ (field (.ref z) 2 >>= _) _ _ s
  refine wpAny_bind (wpAny_field hz rfl (x := .bool false) rfl ?_)
  show wpAny _ _ (field (.ref z) 3 >>= _) _ _ s
  refine wpAny_bind (wpAny_field hz rfl (x := .ref TI) rfl ?_)
  show wpAny _ _ (seqItems? (.ref TI) >>= _) _ _ s
  refine wpAny_bind (wpAny_seqItems hI rfl ?_)
  show wpAny _ _ (Builtin.SmallTypes.ownedTupleIsFree (.ref z) >>= _) _ _ s
  refine wpAny_bind (free_go hz hfr ?_)
  show wpAny _ _ (rule _ >>= _) _ _ s
  refine wpAny_bind (wpAny_rule ?_)
  show wpAny _ _ (field (.ref z) 4 >>= _) _ _ s
  refine wpAny_bind (wpAny_field hz rfl (x := .ref TO) rfl ?_)
  show wpAny _ _ (setField (.ref z) 0 .ellipsis >>= _) _ _ s
  refine wpAny_bind (wpAny_setField hz rfl (by show 0 < 5; decide) ?_)
  obtain ⟨hz0, sb0⟩ := zp_f0 hz .ellipsis
  revert hz0 sb0
  generalize s.heap.update z (Obj.mapFields fun x => x.setIfInBounds 0 Value.ellipsis) = h0
  intro hz0 sb0
  have no : ∀ b, b ≠ z → ∀ o, s.heap.get? b = some o → h0.get? b = some o := fun b hb o e => (sb0.2 b hb).trans e
  refine wpAny_bind ?_
  show wpAny _ _ (forIn [(Value.ref i1, 0), (Value.ref i2, 1)] (none, ()) _) _ _ _
  rw [List.forIn_cons]
  refine wpAny_bind (wpAny_bind (wpAny_onRaise ?_))
  show wpAny _ _ (Builtin.SmallTypes.nextOf (.ref i1) >>= fun x => pure (some x)) _ _ _
  refine wpAny_bind (D1.done { s with heap := h0 } _ _ (D1.frame _ _ _ st1 fun b hb o e => no b (fun q => z1 (q ▸ hb)) o e) fun h1 e xb hs => ?_)
  have hz1 : IsZp h1 z TI TO .ellipsis f1 := xb z _ (Ne.symm iz1) hz0
  obtain ⟨hz2, sb2⟩ := zp_f0 hz1 .none
  refine wpAny_setField (s := { s with heap := h1 }) hz1 rfl (by show 0 < 5; decide) (hE _ e s.toks (fun c o c1 c2 c3 c4 q => (sb2.2 c c1).trans (xb c o c3 (no c c1 o q))) ?_)
  obtain ⟨o, ho, hc⟩ := hs
  refine ⟨o, (sb2.2 e fun q => ?_).trans ho, hc⟩
  rw [q, hz1] at ho
  obtain rfl := Option.some.inj ho
  exact absurd hc (by show ¬ (Value.type "zip" = Value.type "StopIteration"); decide)
theorem zip_endF2 {z TI TO i1 i2 : Addr} {fp1 fp2 : List Addr} {n1 i : Nat} {P1 P2 : Nat → Value → Prop} {St1 St2 : Nat → Heap → Prop} {a b f0 f1 : Value} {Q : Fin → Shared → Prop}
    (D1 : Draws prog w A i1 fp1 n1 P1 St1) (D2 : Draws prog w A i2 fp2 i P2 St2)
    (hz : IsZp s.heap z TI TO f0 f1) (hfr : FreeT s.heap f0) (hI : IsPair s.heap TI (.ref i1) (.ref i2)) (hO : IsPair s.heap TO a b) (st1 : St1 i s.heap) (st2 : St2 i s.heap) (l1 : i < n1)
    (z1 : z ∉ fp1) (z2 : z ∉ fp2) (o2 : TO ∉ fp2) (x21 : i1 ∉ fp2) (iz1 : i1 ≠ z) (iz2 : i2 ≠ z) (io1 : i1 ≠ TO) (oz : TO ≠ z)
    (hE : ∀ h' e tk, (∀ c o, c ≠ z → c ≠ TO → c ≠ i1 → c ≠ i2 → s.heap.get? c = some o → h'.get? c = some o) → (∃ o, h'.get? e = some o ∧ o.cls = .type "StopIteration") → E (.ref e) { s with heap := h', toks := tk }) :
    wpAny (model prog w) A (Builtin.«zip.__next__» { pos := [.ref z] }) Q E s := by
  show wpAny _ _ (field (.ref z) 2 >>= _) _ _ s
  refine wpAny_bind (wpAny_field hz rfl (x := .bool false) rfl ?_)
  show wpAny _ _ (field (.ref z) 3 >>= _) _ _ s
  refine wpAny_bind (wpAny_field hz rfl (x := .ref TI) rfl ?_)
  show wpAny _ _ (seqItems? (.ref TI) >>= _) _ _ s
  refine wpAny_bind (wpAny_seqItems hI rfl ?_)
  show wpAny _ _ (Builtin.SmallTypes.ownedTupleIsFree (.ref z) >>= _) _ _ s
  refine wpAny_bind (free_go hz hfr ?_)
  show wpAny _ _ (rule _ >>= _) _ _ s
  refine wpAny_bind (wpAny_rule ?_)
  show wpAny _ _ (field (.ref z) 4 >>= _) _ _ s
  refine wpAny_bind (wpAny_field hz rfl (x := .ref TO) rfl ?_)
  show wpAny _ _ (setField (.ref z) 0 .ellipsis >>= _) _ _ s
  refine wpAny_bind (wpAny_setField hz rfl (by show 0 < 5; decide) ?_)
  obtain ⟨hz0, sb0⟩ := zp_f0 hz .ellipsis
  revert hz0 sb0
  generalize s.heap.update z (Obj.mapFields fun x => x.setIfInBounds 0 Value.ellipsis) = h0
  intro hz0 sb0
  have no : ∀ b, b ≠ z → ∀ o, s.heap.get? b = some o → h0.get? b = some o := fun b hb o e => (sb0.2 b hb).trans e
  refine wpAny_bind ?_
  show wpAny _ _ (forIn [(Value.ref i1, 0), (Value.ref i2, 1)] (none, ()) _) _ _ _
  rw [List.forIn_cons]
  refine wpAny_bind (wpAny_bind (wpAny_onRaise ?_))
  show wpAny _ _ (Builtin.SmallTypes.nextOf (.ref i1) >>= fun x => pure (some x)) _ _ _
  refine wpAny_bind (D1.item i { s with heap := h0 } _ _ l1 (D1.frame _ _ _ st1 fun b hb o e => no b (fun q => z1 (q ▸ hb)) o e) fun x h1 tk1 p1 st1' sb1 => wpAny_pure ?_)
  have hO1 : IsPair h1 TO a b := (sb1.2 TO (Ne.symm io1)).trans (no TO oz _ hO)
  show wpAny _ _ (seqItems? (.ref TO) >>= _) _ _ _
  refine wpAny_bind (wpAny_seqItems (s := { s with heap := h1, toks := tk1 }) hO1 rfl ?_)
  show wpAny _ _ (updateSeq TO _ >>= _) _ _ _
  refine wpAny_bind (wpAny_updateSeq (s := { s with heap := h1, toks := tk1 }) hO1 rfl ?_)
  obtain ⟨hO2, sb2⟩ := pair_0 hO1 x
  revert hO2 sb2
  show IsPair (h1.update TO (Obj.mapSeq fun q => q.setIfInBounds 0 x)) TO x b → Heap.SameBut TO h1 (h1.update TO (Obj.mapSeq fun q => q.setIfInBounds 0 x)) → wpAny _ _ _ _ _ { s with heap := h1.update TO (Obj.mapSeq fun q => q.setIfInBounds 0 x), toks := tk1 }
  generalize h1.update TO (Obj.mapSeq fun q => q.setIfInBounds 0 x) = h2
  intro hO2 sb2
  refine wpAny_bind (wpAny_letGo (wpAny_pure ?_))
  show wpAny _ _ (forIn [(Value.ref i2, 1)] (none, ()) _) _ _ _
  rw [List.forIn_cons]
  refine wpAny_bind (wpAny_bind (wpAny_onRaise ?_))
  show wpAny _ _ (Builtin.SmallTypes.nextOf (.ref i2) >>= fun x => pure (some x)) _ _ _
  have k2 : ∀ c o, c ≠ z → c ≠ TO → c ≠ i1 → s.heap.get? c = some o → h2.get? c = some o := fun c o c1 c2 c3 e => (sb2.2 c c2).trans ((sb1.2 c c3).trans (no c c1 o e))
  have hz2 : IsZp h2 z TI TO .ellipsis f1 := (sb2.2 z (Ne.symm oz)).trans ((sb1.2 z (Ne.symm iz1)).trans hz0)
  refine wpAny_bind (D2.done { s with heap := h2, toks := tk1 } _ _ (D2.frame _ _ _ st2 fun c hc o e => k2 c o (fun q => z2 (q ▸ hc)) (fun q => o2 (q ▸ hc)) (fun q => x21 (q ▸ hc)) e) fun h3 e xb hs => ?_)
  have hz3 : IsZp h3 z TI TO .ellipsis f1 := xb z _ (Ne.symm iz2) hz2
  obtain ⟨hz4, sb4⟩ := zp_f0 hz3 .none
  refine wpAny_setField (s := { s with heap := h3, toks := tk1 }) hz3 rfl (by show 0 < 5; decide) (hE _ e tk1 (fun c o c1 c2 c3 c4 q => (sb4.2 c c1).trans (xb c o c4 (k2 c o c1 c2 c3 q))) ?_)
  obtain ⟨o, ho, hc⟩ := hs
  refine ⟨o, (sb4.2 e fun q => ?_).trans ho, hc⟩
  rw [q, hz3] at ho
  obtain rfl := Option.some.inj ho
  exact absurd hc (by show ¬ (Value.type "zip" = Value.type "StopIteration"); decide)
theorem zip_itemH {z TI TO i1 i2 : Addr} {fp1 fp2 : List Addr} {n1 n2 i : Nat} {P1 P2 : Nat → Value → Prop} {St1 St2 : Nat → Heap → Prop} {a b f0 f1 : Value} {Q : Value → Shared → Prop}
    (D1 : Draws prog w A i1 fp1 n1 P1 St1) (D2 : Draws prog w A i2 fp2 n2 P2 St2)
    (hz : IsZp s.heap z TI TO f0 f1) (hfr : HeldT s.heap f0) (hI : IsPair s.heap TI (.ref i1) (.ref i2)) (hO : IsPair s.heap TO a b) (st1 : St1 i s.heap) (st2 : St2 i s.heap) (l1 : i < n1) (l2 : i < n2)
    (z1 : z ∉ fp1) (z2 : z ∉ fp2) (x12 : i2 ∉ fp1) (x21 : i1 ∉ fp2) (iz1 : i1 ≠ z) (iz2 : i2 ≠ z) (io1 : i1 ≠ TO) (io2 : i2 ≠ TO) (oz : TO ≠ z) (tz : TI ≠ z) (ti1 : TI ≠ i1) (ti2 : TI ≠ i2)
    (hQ : ∀ x y h' tk, P1 i x → P2 i y → IsZp h' z TI TO f0 (.bool true) → IsPair h' TI (.ref i1) (.ref i2) → IsPair h' TO a b → St1 (i + 1) h' → St2 (i + 1) h' → IsPair h' s.heap.objs.size x y → h'.objs.size = s.heap.objs.size + 1 →
      (∀ c o, c ≠ z → c ≠ i1 → c ≠ i2 → s.heap.get? c = some o → h'.get? c = some o) → Q (.ref s.heap.objs.size) { s with heap := h', toks := tk }) :
    wpAny (model prog w) A (Builtin.«zip.__next__» { pos := [.ref z] }) (fun fin s' => ∃ v, fin = Fin.done (Flow.ret v) ∧ Q v s') E s := by
  show wpAny _ _ (field (.ref z) 2 >>= _) _ _ s
  refine wpAny_bind (wpAny_field hz rfl (x := .bool false) rfl ?_)
  show wpAny _ _ (field (.ref z) 3 >>= _) _ _ s
  refine wpAny_bind (wpAny_field hz rfl (x := .ref TI) rfl ?_)
  show wpAny _ _ (seqItems? (.ref TI) >>= _) _ _ s
  refine wpAny_bind (wpAny_seqItems hI rfl ?_)
  show wpAny _ _ (Builtin.SmallTypes.ownedTupleIsFree (.ref z) >>= _) _ _ s
  refine wpAny_bind (held_go hz hfr fun h0 hz0 sb0 => ?_)
  have no : ∀ b, b ≠ z → ∀ o, s.heap.get? b = some o → h0.get? b = some o := fun b hb o e => (sb0.2 b hb).trans e
  refine wpAny_bind ?_
  show wpAny _ _ (forIn #[Value.ref i1, Value.ref i2] (none, #[]) _) _ _ _
  rw [← Array.forIn_toList]
  show wpAny _ _ (forIn [Value.ref i1, Value.ref i2] (none, #[]) _) _ _ _
  rw [List.forIn_cons]
  refine wpAny_bind (wpAny_bind (wpAny_holding ?_))
  show wpAny _ _ (Builtin.SmallTypes.nextOf (.ref i1) >>= fun x => pure (some x)) _ _ _
  refine wpAny_bind (D1.item i { s with heap := h0 } _ _ l1 (D1.frame _ _ _ st1 fun b hb o e => no b (fun q => z1 (q ▸ hb)) o e) fun x h1 tk1 p1 st1' sb1 => wpAny_pure ?_)
  refine wpAny_pure ?_
  show wpAny _ _ (forIn [Value.ref i2] (none, #[x]) _) _ _ _
  rw [List.forIn_cons]
  refine wpAny_bind (wpAny_bind (wpAny_holding ?_))
  show wpAny _ _ (Builtin.SmallTypes.nextOf (.ref i2) >>= fun x => pure (some x)) _ _ _
  have k1 : ∀ c o, c ≠ z → c ≠ i1 → s.heap.get? c = some o → h1.get? c = some o := fun c o c1 c3 e => (sb1.2 c c3).trans (no c c1 o e)
  refine wpAny_bind (D2.item i { s with heap := h1, toks := tk1 } _ _ l2 (D2.frame _ _ _ st2 fun c hc o e => k1 c o (fun q => z2 (q ▸ hc)) (fun q => x21 (q ▸ hc)) e) fun y h2 tk2 p2 st2' sb2 => wpAny_pure ?_)
  refine wpAny_pure ?_
  show wpAny _ _ (forIn [] (none, #[x, y]) _) _ _ _
  rw [List.forIn_nil]
  refine wpAny_pure ?_
  show wpAny _ _ (newTuple [x, y] >>= fun r => pure (Fin.done (Flow.ret r))) _ _ _
  refine wpAny_bind ?_
  simp only [newTuple]
  refine wpAny_newObj_type ?_ (by size_fits)
  have k2 : ∀ c o, c ≠ z → c ≠ i1 → c ≠ i2 → s.heap.get? c = some o → h2.get? c = some o := fun c o c1 c3 c4 e => (sb2.2 c c4).trans (k1 c o c1 c3 e)
  have sz2 : h2.objs.size = s.heap.objs.size := by rw [sb2.1, sb1.1, sb0.1]
  have hz2 : IsZp h2 z TI TO f0 (.bool true) := (sb2.2 z (Ne.symm iz2)).trans ((sb1.2 z (Ne.symm iz1)).trans hz0)
  have t1 : St1 (i + 1) h2 := D1.frame _ _ _ st1' fun c hc o e => (sb2.2 c (fun q => x12 (q ▸ hc))).trans e
  have hT : IsPair (h2.push { cls := .type "tuple", data := .seq #[x, y] }) h2.objs.size x y := Heap.get?_push_size _ rfl
  have sz3 : (h2.push { cls := .type "tuple", data := .seq #[x, y] }).objs.size = h2.objs.size + 1 := Heap.size_push ..
  rw [sz2] at hT sz3
  show wpAny _ _ (pure (Fin.done (Flow.ret (.ref h2.objs.size)))) _ _ { s with heap := h2.push { cls := .type "tuple", data := .seq #[x, y] }, toks := tk2 }
  rw [sz2]
  exact wpAny_pure ⟨_, rfl, hQ x y _ tk2 p1 p2 (Heap.get?_push_of_some _ hz2) (Heap.get?_push_of_some _ (k2 TI _ tz ti1 ti2 hI)) (Heap.get?_push_of_some _ (k2 TO _ oz (Ne.symm io1) (Ne.symm io2) hO))
    (D1.frame _ _ _ t1 fun c hc o e => Heap.get?_push_of_some _ e) (D2.frame _ _ _ st2' fun c hc o e => Heap.get?_push_of_some _ e) hT sz3 fun c o c1 c3 c4 e => Heap.get?_push_of_some _ (k2 c o c1 c3 c4 e)⟩
theorem zip_endH1 {z TI TO i1 i2 : Addr} {fp1 : List Addr} {n1 : Nat} {P1 : Nat → Value → Prop} {St1 : Nat → Heap → Prop} {f0 f1 : Value} {Q : Fin → Shared → Prop}
    (D1 : Draws prog w A i1 fp1 n1 P1 St1)
    (hz : IsZp s.heap z TI TO f0 f1) (hfr : HeldT s.heap f0) (hI : IsPair s.heap TI (.ref i1) (.ref i2)) (st1 : St1 n1 s.heap) (z1 : z ∉ fp1)
    (hE : ∀ h' e tk, (∀ c o, c ≠ z → c ≠ i1 → c ≠ i2 → s.heap.get? c = some o → h'.get? c = some o) → (∃ o, h'.get? e = some o ∧ o.cls = .type "StopIteration") → E (.ref e) { s with heap := h', toks := tk }) :
    wpAny (model prog w) A (Builtin.«zip.__next__» { pos := [.ref z] }) Q E s := by
  show wpAny _ _ (field (.ref z) 2 >>= _) _ _ s
  refine wpAny_bind (wpAny_field hz rfl (x := .bool false) rfl ?_)
  show wpAny _ _ (field (.ref z) 3 >>= _) _ _ s
  refine wpAny_bind (wpAny_field hz rfl (x := .ref TI) rfl ?_)
  show wpAny _ _ (seqItems? (.ref TI) >>= _) _ _ s
  refine wpAny_bind (wpAny_seqItems hI rfl ?_)
  show wpAny _ _ (Builtin.SmallTypes.ownedTupleIsFree (.ref z) >>= _) _ _ s
  refine wpAny_bind (held_go hz hfr fun h0 hz0 sb0 => ?_)
  have no : ∀ b, b ≠ z → ∀ o, s.heap.get? b = some o → h0.get? b = some o := fun b hb o e => (sb0.2 b hb).trans e
  refine wpAny_bind ?_
  show wpAny _ _ (forIn #[Value.ref i1, Value.ref i2] (none, #[]) _) _ _ _
  rw [← Array.forIn_toList]
  show wpAny _ _ (forIn [Value.ref i1, Value.ref i2] (none, #[]) _) _ _ _
  rw [List.forIn_cons]
  refine wpAny_bind (wpAny_bind (wpAny_holding ?_))
  show wpAny _ _ (Builtin.SmallTypes.nextOf (.ref i1) >>= fun x => pure (some x)) _ _ _
  exact wpAny_bind (D1.done { s with heap := h0 } _ _ (D1.frame _ _ _ st1 fun b hb o e => no b (fun q => z1 (q ▸ hb)) o e) fun h1 e xb hs => hE h1 e s.toks (fun c o c1 c3 c4 q => xb c o c3 (no c c1 o q)) hs)
theorem zip_endH2 {z TI TO i1 i2 : Addr} {fp1 fp2 : List Addr} {n1 i : Nat} {P1 P2 : Nat → Value → Prop} {St1 St2 : Nat → Heap → Prop} {f0 f1 : Value} {Q : Fin → Shared → Prop}
    (D1 : Draws prog w A i1 fp1 n1 P1 St1) (D2 : Draws prog w A i2 fp2 i P2 St2)
    (hz : IsZp s.heap z TI TO f0 f1) (hfr : HeldT s.heap f0) (hI : IsPair s.heap TI (.ref i1) (.ref i2)) (st1 : St1 i s.heap) (st2 : St2 i s.heap) (l1 : i < n1) (z1 : z ∉ fp1) (z2 : z ∉ fp2) (x21 : i1 ∉ fp2)
    (hE : ∀ h' e tk, (∀ c o, c ≠ z → c ≠ i1 → c ≠ i2 → s.heap.get? c = some o → h'.get? c = some o) → (∃ o, h'.get? e = some o ∧ o.cls = .type "StopIteration") → E (.ref e) { s with heap := h', toks := tk }) :
    wpAny (model prog w) A (Builtin.«zip.__next__» { pos := [.ref z] }) Q E s := by
  show wpAny _ _ (field (.ref z) 2 >>= _) _ _ s
  refine wpAny_bind (wpAny_field hz rfl (x := .bool false) rfl ?_)
  show wpAny _ _ (field (.ref z) 3 >>= _) _ _ s
  refine wpAny_bind (wpAny_field hz rfl (x := .ref TI) rfl ?_)
  show wpAny _ _ (seqItems? (.ref TI) >>= _) _ _ s
  refine wpAny_bind (wpAny_seqItems hI rfl ?_)
  show wpAny _ _ (Builtin.SmallTypes.ownedTupleIsFree (.ref z) >>= _) _ _ s
  refine wpAny_bind (held_go hz hfr fun h0 hz0 sb0 => ?_)
  have no : ∀ b, b ≠ z → ∀ o, s.heap.get? b = some o → h0.get? b = some o := fun b hb o e => (sb0.2 b hb).trans e
  refine wpAny_bind ?_
  show wpAny _ _ (forIn #[Value.ref i1, Value.ref i2] (none, #[]) _) _ _ _
  rw [← Array.forIn_toList]
  show wpAny _ _ (forIn [Value.ref i1, Value.ref i2] (none, #[]) _) _ _ _
  rw [List.forIn_cons]
  refine wpAny_bind (wpAny_bind (wpAny_holding ?_))
  show wpAny _ _ (Builtin.SmallTypes.nextOf (.ref i1) >>= fun x => pure (some x)) _ _ _
  refine wpAny_bind (D1.item i { s with heap := h0 } _ _ l1 (D1.frame _ _ _ st1 fun b hb o e => no b (fun q => z1 (q ▸ hb)) o e) fun x h1 tk1 p1 st1' sb1 => wpAny_pure ?_)
  refine wpAny_pure ?_
  show wpAny _ _ (forIn [Value.ref i2] (none, #[x]) _) _ _ _
  rw [List.forIn_cons]
  refine wpAny_bind (wpAny_bind (wpAny_holding ?_))
  show wpAny _ _ (Builtin.SmallTypes.nextOf (.ref i2) >>= fun x => pure (some x)) _ _ _
  have k1 : ∀ c o, c ≠ z → c ≠ i1 → s.heap.get? c = some o → h1.get? c = some o := fun c o c1 c3 e => (sb1.2 c c3).trans (no c c1 o e)
  exact wpAny_bind (D2.done { s with heap := h1, toks := tk1 } _ _ (D2.frame _ _ _ st2 fun c hc o e => k1 c o (fun q => z2 (q ▸ hc)) (fun q => x21 (q ▸ hc)) e) fun h2 e xb hs => hE h2 e tk1 (fun c o c1 c3 c4 q => xb c o c4 (k1 c o c1 c3 q)) hs)
end
end L3

namespace L3
open PySem PySem.Spec PyProof.Rows L2
section
variable {prog : Program} {w : World} {A : Around} {E : Value → Shared → Prop} {s : Shared}
theorem zp_ty {z TI TO : Addr} {f0 f1 : Value} (hz : IsZp s.heap z TI TO f0 f1) : s.TypeIs (.ref z) "zip" := ⟨_, hz, rfl⟩
theorem pn_zp {z TI TO : Addr} {f0 f1 : Value} {Q : Option Value → Shared → Prop} (hz : IsZp s.heap z TI TO f0 f1)
    (h : wpAny (model prog w) A.in1 (Builtin.«zip.__next__» { pos := [.ref z] }) (fun fin s' => ∃ v, fin = Fin.done (Flow.ret v) ∧ Q (some v) s')
      (fun e s' => ∃ a, e = .ref a ∧ (∃ o, s'.heap.get? a = some o ∧ o.cls = .type "StopIteration") ∧ Q none s') s) : wpAny (model prog w) A (pyNext (.ref z)) Q E s := by
  unfold pyNext
  refine wpAny_bind (wpAny_attempt (wpAny_callSpecial?_slot (name := Str.ofString "__next__") (zp_ty hz) F.slot_zip_next (wpAny_call_entry F.slot_zip_next (zp_ty hz) F.entry_zip_next (wpAny_mono h (fun fin s' hq => ?_) (fun e s' hq => ?_)) (F.args_zip_next_1 _))))
  · obtain ⟨v, rfl, q⟩ := hq
    exact ⟨v, rfl, wpAny_pure q⟩
  · obtain ⟨a, rfl, ho, q⟩ := hq
    exact stop_next ho q
theorem it_zp {z TI TO : Addr} {f0 f1 : Value} {Q : Value → Shared → Prop} (hz : IsZp s.heap z TI TO f0 f1) (h : Q (.ref z) s) : wpAny (model prog w) A (pyIter (.ref z)) Q E s := by
  refine wpAny_pyIter_slot (zp_ty hz) F.slot_zip_iter (wpAny_call_entry F.slot_zip_iter (zp_ty hz) F.entry_zip_iter ?_ (F.args_zip_iter_1 _))
  exact wpAny_pure ⟨_, rfl, "zip", _, zp_ty hz, F.slot_zip_next.lookup, h⟩
end
def ZipSN (c d : Bool) (z TI TO i1 i2 a b : Addr) (i : Nat) (h : Heap) : Prop :=
  (∃ f0 f1, IsZp h z TI TO f0 f1 ∧ (f0 = .none ∨ ∃ a t, f0 = Value.int a t)) ∧ IsPair h TI (.ref i1) (.ref i2) ∧ (∃ u v, IsPair h TO u v) ∧ IterC c h i1 a i ∧ IterC d h i2 b i
theorem freeOrHeld {h : Heap} {f0 : Value} (k : f0 = .none ∨ ∃ a t, f0 = Value.int a t) : FreeT h f0 ∨ HeldT h f0 := by
  rcases k with rfl | ⟨a, t, rfl⟩
  · exact .inl (.inl rfl)
  · cases e : h.get? a.toNat with
    | none => exact .inl (.inr ⟨a, t, rfl, e⟩)
    | some o => exact .inr ⟨a, t, o, rfl, e⟩
theorem turn_zipN {P : Program} {w : World} {K : PySem.W.Frag} {nm : Str} {pt : Pos} (c d : Bool) (a b n : Nat) (ha : a < n) (hb : b < n) :
    Turn P w K (.Name nm pt) (Itz K c a d b) [n + 4, n + 3, n + 2, n + 1, n] (n + 4) (ZipSN c d (n + 4) (n + 2) (n + 3) n (n + 1) a b) where
  mem := by simp
  obj := fun i h st q hq => by
    obtain ⟨⟨f0, f1, hz, _⟩, hI, ⟨u, v, hO⟩, s1, s2⟩ := st
    simp only [List.mem_cons, List.mem_nil_iff, or_false] at hq
    rcases hq with rfl | rfl | rfl | rfl | rfl
    · exact ⟨_, hz, fun v z => by cases z⟩
    · exact ⟨_, hO, fun v z => by cases z⟩
    · exact ⟨_, hI, fun v z => by cases z⟩
    · exact s2.obj
    · exact s1.obj
  keep := fun i h h' st k => by
    obtain ⟨⟨f0, f1, hz, hk⟩, hI, ⟨u, v, hO⟩, s1, s2⟩ := st
    exact ⟨⟨f0, f1, k _ (by simp) _ hz, hk⟩, k _ (by simp) _ hI, ⟨u, v, k _ (by simp) _ hO⟩, s1.at (k _ (by simp)), s2.at (k _ (by simp))⟩
  item := by
    intro X hP hw hK hc i pins s σ H E I hf st hg
    subst hP hw hK
    obtain ⟨⟨f0, f1, hz, hk0⟩, hI, ⟨u0, v0, hO⟩, s1, s2⟩ := st
    obtain ⟨xs, ys, x, y, hqa, hqb, hx, hy⟩ := hg
    obtain ⟨ia, ra, pa⟩ := inv_seqC I hqa
    obtain ⟨ib, rb, pb⟩ := inv_seqC I hqb
    obtain ⟨u, hu, ru⟩ := ra.get hx
    obtain ⟨v, hv, rv⟩ := rb.get hy
    have l1 : i < ia.toArray.size := by have := (List.getElem?_eq_some_iff.mp hu).1; simpa using this
    have l2 : i < ib.toArray.size := by have := (List.getElem?_eq_some_iff.mp hv).1; simpa using this
    have an : a ≠ n := Nat.ne_of_lt ha
    have bn : b ≠ n + 1 := by omega
    have zs : n + 4 < s.heap.objs.size := Heap.lt_size hz
    have fin : ∀ p q h1 tk, ia.toArray[i]? = some p → ib.toArray[i]? = some q → (∃ f0 f1, IsZp h1 (n + 4) (n + 2) (n + 3) f0 f1 ∧ (f0 = .none ∨ ∃ a t, f0 = Value.int a t)) → IsPair h1 (n + 2) (.ref n) (.ref (n + 1)) → (∃ u v, IsPair h1 (n + 3) u v) → IterC c h1 n a (i + 1) → IterC d h1 (n + 1) b (i + 1) → IsPair h1 s.heap.objs.size p q →
        (∀ c o, c ≠ n + 4 → c ≠ n + 3 → c ≠ n → c ≠ n + 1 → s.heap.get? c = some o → h1.get? c = some o) →
        ∃ u, some (Value.ref s.heap.objs.size) = some u ∧ wpAny (model X.prog X.w) X.A (letOwnedTupleGo (.Name nm pt) (.ref (n + 4)) u) (fun _ s2 => ∃ x H', Inv X pins σ H' s2 ∧ RelV x u ∧ (Itz X.K c a d b).yld i H x H' ∧ ZipSN c d (n + 4) (n + 2) (n + 3) n (n + 1) a b (i + 1) s2.heap ∧ ∀ b ∈ [n + 4, n + 3, n + 2, n + 1, n], H' b = none) E { s with heap := h1, toks := tk } := by
      intro p q h1 tk hp hq hz1 hI1 hO1 st1 st2 hT hk
      have ep : p = u := by
        have e2 : ia.toArray[i]? = some u := by simpa using hu
        rw [hp] at e2; exact Option.some.inj e2
      have eq' : q = v := by
        have e2 : ib.toArray[i]? = some v := by simpa using hv
        rw [hq] at e2; exact Option.some.inj e2
      subst ep eq'
      refine ⟨_, rfl, wpAny_pure ?_⟩
      have hk2 : ∀ b o, b ∉ [n + 4, n + 3, n + 2, n + 1, n] → s.heap.get? b = some o → h1.get? b = some o := fun b o hb q =>
        hk b o (fun z => hb (by simp [z])) (fun z => hb (by simp [z])) (fun z => hb (by simp [z])) (fun z => hb (by simp [z])) q
      have hn : H s.heap.objs.size = none := I.hok.fresh (Nat.le_refl _)
      have I2 : Inv X pins σ (upd H s.heap.objs.size (.tup [x, y])) { s with heap := h1, toks := tk } := turnLaid (s := s) I hk2 hf (Nat.le_refl _) ⟨by show 2 ≤ sizeLine; decide, [p, q], .cons ru (.cons rv .nil), _, hT, rfl, 0, rfl⟩
      refine ⟨.ref s.heap.objs.size, upd H s.heap.objs.size (.tup [x, y]), I2, rfl, ⟨_, x, y, hn, rfl, rfl, fun zs hz => by rw [inv_seqC_inj I hz hqa]; exact hx, fun zs hz => by rw [inv_seqC_inj I hz hqb]; exact hy⟩, ⟨hz1, hI1, hO1, st1, st2⟩, fun q hq => ?_⟩
      have nb : q ≠ s.heap.objs.size := by
        simp only [List.mem_cons, List.mem_nil_iff, or_false] at hq
        omega
      rw [upd_ne nb]; exact (hf q hq).1
    rcases freeOrHeld (h := s.heap) hk0 with hfr | hfr
    · refine pn_zp hz (zip_itemF (A := X.A.in1) (Q := fun v s1 => ∃ u, some v = some u ∧ wpAny (model X.prog X.w) X.A (letOwnedTupleGo (.Name nm pt) (.ref (n + 4)) u) (fun _ s2 => ∃ x H', Inv X pins σ H' s2 ∧ RelV x u ∧ (Itz X.K c a d b).yld i H x H' ∧ ZipSN c d (n + 4) (n + 2) (n + 3) n (n + 1) a b (i + 1) s2.heap ∧ ∀ b ∈ [n + 4, n + 3, n + 2, n + 1, n], H' b = none) E s1)
        (drawsC (A := X.A.in1) (I.ok.hd hc) c n a an ia.toArray) (drawsC (A := X.A.in1) (I.ok.hd hc) d (n + 1) b bn ib.toArray) hz hfr hI hO ⟨s1, pa⟩ ⟨s2, pb⟩ l1 l2 (nin2 (by first | exact nad _ _ (by decide) | exact nad0 _ (by decide) | exact (nad0 _ (by decide)).symm | omega) (by first | exact nad _ _ (by decide) | exact nad0 _ (by decide) | exact (nad0 _ (by decide)).symm | omega)) (nin2 (by first | exact nad _ _ (by decide) | exact nad0 _ (by decide) | exact (nad0 _ (by decide)).symm | omega) (by first | exact nad _ _ (by decide) | exact nad0 _ (by decide) | exact (nad0 _ (by decide)).symm | omega)) (nin2 (by first | exact nad _ _ (by decide) | exact nad0 _ (by decide) | exact (nad0 _ (by decide)).symm | omega) (by first | exact nad _ _ (by decide) | exact nad0 _ (by decide) | exact (nad0 _ (by decide)).symm | omega)) (nin2 (by first | exact nad _ _ (by decide) | exact nad0 _ (by decide) | exact (nad0 _ (by decide)).symm | omega) (by first | exact nad _ _ (by decide) | exact nad0 _ (by decide) | exact (nad0 _ (by decide)).symm | omega)) (nin2 (by first | exact nad _ _ (by decide) | exact nad0 _ (by decide) | exact (nad0 _ (by decide)).symm | omega) (by first | exact nad _ _ (by decide) | exact nad0 _ (by decide) | exact (nad0 _ (by decide)).symm | omega)) (nin2 (by first | exact nad _ _ (by decide) | exact nad0 _ (by decide) | exact (nad0 _ (by decide)).symm | omega) (by first | exact nad _ _ (by decide) | exact nad0 _ (by decide) | exact (nad0 _ (by decide)).symm | omega)) (by first | exact nad _ _ (by decide) | exact nad0 _ (by decide) | exact (nad0 _ (by decide)).symm | omega) (by first | exact nad _ _ (by decide) | exact nad0 _ (by decide) | exact (nad0 _ (by decide)).symm | omega) (by first | exact nad _ _ (by decide) | exact nad0 _ (by decide) | exact (nad0 _ (by decide)).symm | omega) (by first | exact nad _ _ (by decide) | exact nad0 _ (by decide) | exact (nad0 _ (by decide)).symm | omega) (by first | exact nad _ _ (by decide) | exact nad0 _ (by decide) | exact (nad0 _ (by decide)).symm | omega) (by first | exact nad _ _ (by decide) | exact nad0 _ (by decide) | exact (nad0 _ (by decide)).symm | omega) (by first | exact nad _ _ (by decide) | exact nad0 _ (by decide) | exact (nad0 _ (by decide)).symm | omega) (by first | exact nad _ _ (by decide) | exact nad0 _ (by decide) | exact (nad0 _ (by decide)).symm | omega) (by first | exact nad _ _ (by decide) | exact nad0 _ (by decide) | exact (nad0 _ (by decide)).symm | omega) fun p q h1 tk hp hq hz1 hI1 hO1 st1 st2 hT hsz hk => fin p q h1 tk hp hq ⟨_, _, hz1, .inr ⟨_, _, rfl⟩⟩ hI1 ⟨_, _, hO1⟩ st1.1 st2.1 hT hk)
    · refine pn_zp hz (zip_itemH (A := X.A.in1) (Q := fun v s1 => ∃ u, some v = some u ∧ wpAny (model X.prog X.w) X.A (letOwnedTupleGo (.Name nm pt) (.ref (n + 4)) u) (fun _ s2 => ∃ x H', Inv X pins σ H' s2 ∧ RelV x u ∧ (Itz X.K c a d b).yld i H x H' ∧ ZipSN c d (n + 4) (n + 2) (n + 3) n (n + 1) a b (i + 1) s2.heap ∧ ∀ b ∈ [n + 4, n + 3, n + 2, n + 1, n], H' b = none) E s1)
        (drawsC (A := X.A.in1) (I.ok.hd hc) c n a an ia.toArray) (drawsC (A := X.A.in1) (I.ok.hd hc) d (n + 1) b bn ib.toArray) hz hfr hI hO ⟨s1, pa⟩ ⟨s2, pb⟩ l1 l2 (nin2 (by first | exact nad _ _ (by decide) | exact nad0 _ (by decide) | exact (nad0 _ (by decide)).symm | omega) (by first | exact nad _ _ (by decide) | exact nad0 _ (by decide) | exact (nad0 _ (by decide)).symm | omega)) (nin2 (by first | exact nad _ _ (by decide) | exact nad0 _ (by decide) | exact (nad0 _ (by decide)).symm | omega) (by first | exact nad _ _ (by decide) | exact nad0 _ (by decide) | exact (nad0 _ (by decide)).symm | omega)) (nin2 (by first | exact nad _ _ (by decide) | exact nad0 _ (by decide) | exact (nad0 _ (by decide)).symm | omega) (by first | exact nad _ _ (by decide) | exact nad0 _ (by decide) | exact (nad0 _ (by decide)).symm | omega)) (nin2 (by first | exact nad _ _ (by decide) | exact nad0 _ (by decide) | exact (nad0 _ (by decide)).symm | omega) (by first | exact nad _ _ (by decide) | exact nad0 _ (by decide) | exact (nad0 _ (by decide)).symm | omega)) (by first | exact nad _ _ (by decide) | exact nad0 _ (by decide) | exact (nad0 _ (by decide)).symm | omega) (by first | exact nad _ _ (by decide) | exact nad0 _ (by decide) | exact (nad0 _ (by decide)).symm | omega) (by first | exact nad _ _ (by decide) | exact nad0 _ (by decide) | exact (nad0 _ (by decide)).symm | omega) (by first | exact nad _ _ (by decide) | exact nad0 _ (by decide) | exact (nad0 _ (by decide)).symm | omega) (by first | exact nad _ _ (by decide) | exact nad0 _ (by decide) | exact (nad0 _ (by decide)).symm | omega) (by first | exact nad _ _ (by decide) | exact nad0 _ (by decide) | exact (nad0 _ (by decide)).symm | omega) (by first | exact nad _ _ (by decide) | exact nad0 _ (by decide) | exact (nad0 _ (by decide)).symm | omega) (by first | exact nad _ _ (by decide) | exact nad0 _ (by decide) | exact (nad0 _ (by decide)).symm | omega) fun p q h1 tk hp hq hz1 hI1 hO1 st1 st2 hT hsz hk => fin p q h1 tk hp hq ⟨_, _, hz1, hk0⟩ hI1 ⟨_, _, hO1⟩ st1.1 st2.1 hT fun c o c1 c2 c3 c4 e => hk c o c1 c3 c4 e)
  done := by
    intro X hP hw hK hc i pins s σ H E I hf st hg
    subst hP hw hK
    obtain ⟨⟨f0, f1, hz, hk0⟩, hI, ⟨u0, v0, hO⟩, s1, s2⟩ := st
    obtain ⟨xs, ys, hqa, hqb, hl⟩ := hg
    obtain ⟨ia, ra, pa⟩ := inv_seqC I hqa
    obtain ⟨ib, rb, pb⟩ := inv_seqC I hqb
    have la := ra.length
    have lb := rb.length
    have an : a ≠ n := Nat.ne_of_lt ha
    have fin : ∀ (h' : Heap) (e : Addr) (tk : Nat), (∀ c o, c ≠ n + 4 → c ≠ n + 3 → c ≠ n → c ≠ n + 1 → s.heap.get? c = some o → h'.get? c = some o) → Inv X pins σ H { s with heap := h', toks := tk } := fun h' e tk k =>
      turnedL (fp := [n + 4, n + 3, n + 2, n + 1, n]) I (fun b o hb q => k b o (fun z => hb (by simp [z])) (fun z => hb (by simp [z])) (fun z => hb (by simp [z])) (fun z => hb (by simp [z])) q) hf
    rcases freeOrHeld (h := s.heap) hk0 with hfr | hfr
    · by_cases h1 : xs.length ≤ i
      · exact pn_zp hz (zip_endF1 (A := X.A.in1) (drawsC_end (A := X.A.in1) (I.ok.hd hc) c n a ia.toArray (i := i) (by simp; omega)) hz hfr hI hO ⟨rfl, s1, pa⟩ (nin2 (by first | exact nad _ _ (by decide) | exact nad0 _ (by decide) | exact (nad0 _ (by decide)).symm | omega) (by first | exact nad _ _ (by decide) | exact nad0 _ (by decide) | exact (nad0 _ (by decide)).symm | omega)) (by first | exact nad _ _ (by decide) | exact nad0 _ (by decide) | exact (nad0 _ (by decide)).symm | omega) fun h' e tk k ho => ⟨e, rfl, ho, rfl, fin h' e tk k⟩)
      · have h2 : ys.length ≤ i := by omega
        exact pn_zp hz (zip_endF2 (A := X.A.in1) (drawsC (A := X.A.in1) (I.ok.hd hc) c n a an ia.toArray) (drawsC_end (A := X.A.in1) (I.ok.hd hc) d (n + 1) b ib.toArray (i := i) (by simp; omega)) hz hfr hI hO ⟨s1, pa⟩ ⟨rfl, s2, pb⟩ (by simp; omega) (nin2 (by first | exact nad _ _ (by decide) | exact nad0 _ (by decide) | exact (nad0 _ (by decide)).symm | omega) (by first | exact nad _ _ (by decide) | exact nad0 _ (by decide) | exact (nad0 _ (by decide)).symm | omega)) (nin2 (by first | exact nad _ _ (by decide) | exact nad0 _ (by decide) | exact (nad0 _ (by decide)).symm | omega) (by first | exact nad _ _ (by decide) | exact nad0 _ (by decide) | exact (nad0 _ (by decide)).symm | omega)) (nin2 (by first | exact nad _ _ (by decide) | exact nad0 _ (by decide) | exact (nad0 _ (by decide)).symm | omega) (by first | exact nad _ _ (by decide) | exact nad0 _ (by decide) | exact (nad0 _ (by decide)).symm | omega)) (nin2 (by first | exact nad _ _ (by decide) | exact nad0 _ (by decide) | exact (nad0 _ (by decide)).symm | omega) (by first | exact nad _ _ (by decide) | exact nad0 _ (by decide) | exact (nad0 _ (by decide)).symm | omega)) (by first | exact nad _ _ (by decide) | exact nad0 _ (by decide) | exact (nad0 _ (by decide)).symm | omega) (by first | exact nad _ _ (by decide) | exact nad0 _ (by decide) | exact (nad0 _ (by decide)).symm | omega) (by first | exact nad _ _ (by decide) | exact nad0 _ (by decide) | exact (nad0 _ (by decide)).symm | omega) (by first | exact nad _ _ (by decide) | exact nad0 _ (by decide) | exact (nad0 _ (by decide)).symm | omega) fun h' e tk k ho => ⟨e, rfl, ho, rfl, fin h' e tk k⟩)
    · by_cases h1 : xs.length ≤ i
      · exact pn_zp hz (zip_endH1 (A := X.A.in1) (drawsC_end (A := X.A.in1) (I.ok.hd hc) c n a ia.toArray (i := i) (by simp; omega)) hz hfr hI ⟨rfl, s1, pa⟩ (nin2 (by first | exact nad _ _ (by decide) | exact nad0 _ (by decide) | exact (nad0 _ (by decide)).symm | omega) (by first | exact nad _ _ (by decide) | exact nad0 _ (by decide) | exact (nad0 _ (by decide)).symm | omega)) fun h' e tk k ho => ⟨e, rfl, ho, rfl, fin h' e tk fun c o c1 _ c3 c4 q => k c o c1 c3 c4 q⟩)
      · have h2 : ys.length ≤ i := by omega
        exact pn_zp hz (zip_endH2 (A := X.A.in1) (drawsC (A := X.A.in1) (I.ok.hd hc) c n a an ia.toArray) (drawsC_end (A := X.A.in1) (I.ok.hd hc) d (n + 1) b ib.toArray (i := i) (by simp; omega)) hz hfr hI ⟨s1, pa⟩ ⟨rfl, s2, pb⟩ (by simp; omega) (nin2 (by first | exact nad _ _ (by decide) | exact nad0 _ (by decide) | exact (nad0 _ (by decide)).symm | omega) (by first | exact nad _ _ (by decide) | exact nad0 _ (by decide) | exact (nad0 _ (by decide)).symm | omega)) (nin2 (by first | exact nad _ _ (by decide) | exact nad0 _ (by decide) | exact (nad0 _ (by decide)).symm | omega) (by first | exact nad _ _ (by decide) | exact nad0 _ (by decide) | exact (nad0 _ (by decide)).symm | omega)) (nin2 (by first | exact nad _ _ (by decide) | exact nad0 _ (by decide) | exact (nad0 _ (by decide)).symm | omega) (by first | exact nad _ _ (by decide) | exact nad0 _ (by decide) | exact (nad0 _ (by decide)).symm | omega)) fun h' e tk k ho => ⟨e, rfl, ho, rfl, fin h' e tk fun c o c1 _ c3 c4 q => k c o c1 c3 c4 q⟩)
  self := fun _ _ _ _ _ st h => by obtain ⟨⟨f0, f1, hz, _⟩, _⟩ := st; exact it_zp hz h
section
variable {X : Cx} {nm : Str} {pt : Pos} {K : PySem.W.Frag}
theorem pi_zipN {a b : Expr} {ta : TA} {p pos : Pos} (hK : X.K = K) (hg : Gl X "zip") (hm : X.mg "zip" = none) (ha : PA X [a, b] ta) (hs : starEach [a, b] X.env = [(false, eval a X.env), (false, eval b X.env)] := by rfl) (hs2 : starEach [b] X.env = [(false, eval b X.env)] := by rfl) :
    PI X (.Name nm pt) (.Call (.Name "zip" p) [a, b] [] pos) (iZip K ta) := by
  subst hK
  intro pins s σ H R I h
  refine Call_ (ld_blt I hg hm b_zip (PyProof.Rows.callWith_type1 (thn (ha pos pins s σ H _ I h) fun us s1 ⟨vs, H1, I1, r1, q1⟩ => ?_) (by rw [hs, hs2]) (by rw [hs2]; rfl)))
  obtain ⟨c, d, ra, rb, e, ⟨xs, hqa⟩, ⟨ys, hqb⟩, q⟩ := q1
  subst e
  obtain ⟨u, w', rfl, e1, e2⟩ := vals2 r1
  cases (show u = Value.ref ra from e1)
  cases (show w' = Value.ref rb from e2)
  obtain ⟨ia, va, pa⟩ := inv_seqC I1 hqa
  obtain ⟨ib, vb, pb⟩ := inv_seqC I1 hqb
  refine call_zipS pa.src pb.src fun h' hz hI hO h1 h2 hk => ?_
  refine wpAny_pyIter_zip (s := { s1 with heap := h' }) hz ?_
  have I2 : Inv X pins σ H1 { s1 with heap := h' } := I1.kept (t' := s1.toks) hk
  refine ⟨s1.heap.objs.size + 4, [s1.heap.objs.size + 4, s1.heap.objs.size + 3, s1.heap.objs.size + 2, s1.heap.objs.size + 1, s1.heap.objs.size], _, _, H1, rfl, I2, turn_zipN c d ra rb s1.heap.objs.size pa.lt pb.lt, ⟨⟨_, _, hz, .inl rfl⟩, hI, ⟨_, _, hO⟩, .mk h1, .mk h2⟩, fun b hb => ?_, q⟩
  have hle : s1.heap.objs.size ≤ b := by
    simp only [List.mem_cons, List.mem_nil_iff, or_false] at hb
    rcases hb with rfl | rfl | rfl | rfl | rfl <;> first | exact Nat.le_add_right _ _ | exact Nat.le_refl _
  exact I1.fpOk hle (I1.hok.fresh hle)
end
end L3

namespace L3
open PySem PySem.Spec PyProof.Rows L2
def evIx (c n : Nat) : List Nat := (List.range ((n + 1 - c) / 2)).map fun k => c + 2 * k
def pickV {α : Type} (ks : List Nat) (xs : List α) : List α := ks.filterMap fun i => xs[i]?
theorem pick_eq {its : List Value} {ks : List Nat} {lo : Option Int} (h : sliceRange (sliceBounds lo none (some 2) its.length).1 (sliceBounds lo none (some 2) its.length).2.1 (sliceBounds lo none (some 2) its.length).2.2 = ks) :
    slicePick its.toArray lo none (some 2) = (pickV ks its).toArray := by
  unfold slicePick pickV
  rw [List.size_toArray, h]
  congr 1
  refine fm_congr fun k _ => ?_
  simp
theorem ix0 (n : Nat) : sliceRange (sliceBounds none none (some 2) n).1 (sliceBounds none none (some 2) n).2.1 (sliceBounds none none (some 2) n).2.2 = evIx 0 n := by
  have b1 : (sliceBounds none none (some 2) n).1 = 0 := by simp [sliceBounds]
  have b2 : (sliceBounds none none (some 2) n).2.1 = n := by simp [sliceBounds]
  have b3 : (sliceBounds none none (some 2) n).2.2 = 2 := rfl
  rw [b1, b2, b3]
  unfold sliceRange evIx
  rw [if_pos (by decide)]
  have : (if (0 : Int) < n then ((n : Int) - 0 + 2 - 1) / 2 else 0).toNat = (n + 1 - 0) / 2 := by split <;> omega
  dsimp only
  rw [this]
  refine List.map_congr_left fun k _ => ?_
  omega
theorem ix1 (n : Nat) : sliceRange (sliceBounds (some 1) none (some 2) n).1 (sliceBounds (some 1) none (some 2) n).2.1 (sliceBounds (some 1) none (some 2) n).2.2 = evIx 1 n := by
  have b1 : (sliceBounds (some 1) none (some 2) n).1 = min 1 (n : Int) := by simp [sliceBounds]; omega
  have b2 : (sliceBounds (some 1) none (some 2) n).2.1 = n := by simp [sliceBounds]
  have b3 : (sliceBounds (some 1) none (some 2) n).2.2 = 2 := rfl
  rw [b1, b2, b3]
  unfold sliceRange evIx
  rw [if_pos (by decide)]
  have : (if min 1 (n : Int) < n then ((n : Int) - min 1 (n : Int) + 2 - 1) / 2 else 0).toNat = (n + 1 - 1) / 2 := by split <;> omega
  dsimp only
  rw [this]
  refine List.map_congr_left fun k hk => ?_
  have := List.mem_range.mp hk
  omega
theorem valsPick {xs : List V} {us : List Value} (r : Vals xs us) : ∀ ks : List Nat, Vals (pickV ks xs) (pickV ks us) := by
  intro ks
  induction ks with
  | nil => exact .nil
  | cons k ks ih =>
    have hl := r.length
    unfold pickV at ih ⊢
    cases e : xs[k]? with
    | none =>
      have e2 : us[k]? = none := by rw [List.getElem?_eq_none_iff] at e ⊢; omega
      rw [List.filterMap_cons_none e, List.filterMap_cons_none e2]; exact ih
    | some x =>
      obtain ⟨u, hu, ru⟩ := r.get e
      rw [List.filterMap_cons_some e, List.filterMap_cons_some hu]; exact .cons ru ih
theorem evIx_len {c n : Nat} (h : c ≤ 1) : (evIx c n).length ≤ n := by unfold evIx; rw [List.length_map, List.length_range]; omega
theorem pick_len {α : Type} {ks : List Nat} {xs : List α} : (pickV ks xs).length ≤ ks.length := List.length_filterMap_le _ _
section
variable {X : Cx} {K : PySem.W.Frag}
def tEvL (K : PySem.W.Frag) (c : Nat) (te : TE) : TE := fun σ H Q => te σ H fun x H1 => ∃ a xs, x = .ref a ∧ SqL K H1 a xs ∧ ∀ p, H1 p = none → Q (.ref p) (upd H1 p (.lst (pickV (evIx c xs.length) xs)))
theorem pe_ev0 {e : Expr} {te : TE} {j : Nat} {pc p2 pos : Pos} (hK : X.K = K) (he : PE X e te) : PE X (.Subscript e (.Slice none none (some (.Constant (.int 2) j pc)) p2) pos) (tEvL K 0 te) := by
  subst hK
  intro pins s σ H Q I h
  refine Subscript_ (thn (he pins s σ H _ I h) fun v s1 ⟨x, H1, I1, r1, q1⟩ => ?_)
  obtain ⟨a, xs, rfl, hx, q⟩ := q1
  cases (show v = Value.ref a from r1)
  refine wpAny_Slice (thn (po_none pins s1 σ H1 (fun o H2 => o = none ∧ H2 = H1) I1 ⟨rfl, rfl⟩) fun vl s2 ⟨l, H2, I2, pl, q2a, q2⟩ => thn (po_none pins s2 σ H2 (fun o H3 => o = none ∧ H3 = H1) I2 ⟨rfl, q2⟩) fun vu s3 ⟨u, H3, I3, pu', q3a, q3⟩ => ?_)
  subst q2a q3a q3
  refine thn (po_some pe_int pins s3 σ H3 (fun o H4 => o = some 2 ∧ H4 = H3) I3 ⟨_, rfl, rfl, rfl⟩) fun vs s4 ⟨o, H4, I4, po, q4, q5⟩ => ?_
  subst q4 q5
  have I5 : Inv X pins σ H4 { s4 with heap := s4.heap.push { cls := .type "slice", data := .fields #[vl, vu, vs] } } := I4.kept (t' := s4.toks) fun b ob q => Heap.get?_push_of_some _ q
  show wpAny (model X.prog X.w) X.A (subscriptTail e _ (.ref a) (.ref s4.heap.objs.size)) (EP X pins σ Q) X.xe { s4 with heap := s4.heap.push { cls := .type "slice", data := .fields #[vl, vu, vs] } }
  obtain ⟨its, r, ht, hz⟩ := I5.list hx
  have hlen := r.length
  refine tail_any (ops := [.ref a, .ref s4.heap.objs.size]) ht.isList.typeIs slot_list_getitem.lookup ?_ (by with_unfolding_all rfl)
  refine wpAny_getItem_list_slice ht.isList (Heap.IsSliceOf.new ..) pl pu' po (by decide) ?_ (by rw [List.size_toArray] <;> omega)
  rw [pick_eq (ix0 _)]
  rw [hlen] at q
  refine ⟨.ref _, _, I5.laid (t' := s4.toks) (o := .lst (pickV (evIx 0 its.length) xs)) (fun b ob q => Heap.get?_push_of_some _ q) (Nat.le_refl _) ?_, rfl, q _ (I5.hok.fresh (Nat.le_refl _))⟩
  exact ⟨Nat.le_trans pick_len (Nat.le_trans (evIx_len (by decide)) (by omega)), _, 0, valsPick r _, Heap.get?_push_size _ rfl⟩
theorem pe_ev1 {e : Expr} {te : TE} {i j : Nat} {pb pc p2 pos : Pos} (hK : X.K = K) (he : PE X e te) : PE X (.Subscript e (.Slice (some (.Constant (.int 1) i pb)) none (some (.Constant (.int 2) j pc)) p2) pos) (tEvL K 1 te) := by
  subst hK
  intro pins s σ H Q I h
  refine Subscript_ (thn (he pins s σ H _ I h) fun v s1 ⟨x, H1, I1, r1, q1⟩ => ?_)
  obtain ⟨a, xs, rfl, hx, q⟩ := q1
  cases (show v = Value.ref a from r1)
  refine wpAny_Slice (thn (po_some pe_int pins s1 σ H1 (fun o H2 => o = some 1 ∧ H2 = H1) I1 ⟨_, rfl, rfl, rfl⟩) fun vl s2 ⟨l, H2, I2, pl, q2a, q2⟩ => thn (po_none pins s2 σ H2 (fun o H3 => o = none ∧ H3 = H1) I2 ⟨rfl, q2⟩) fun vu s3 ⟨u, H3, I3, pu', q3a, q3⟩ => ?_)
  subst q2a q3a q3
  refine thn (po_some pe_int pins s3 σ H3 (fun o H4 => o = some 2 ∧ H4 = H3) I3 ⟨_, rfl, rfl, rfl⟩) fun vs s4 ⟨o, H4, I4, po, q4, q5⟩ => ?_
  subst q4 q5
  have I5 : Inv X pins σ H4 { s4 with heap := s4.heap.push { cls := .type "slice", data := .fields #[vl, vu, vs] } } := I4.kept (t' := s4.toks) fun b ob q => Heap.get?_push_of_some _ q
  show wpAny (model X.prog X.w) X.A (subscriptTail e _ (.ref a) (.ref s4.heap.objs.size)) (EP X pins σ Q) X.xe { s4 with heap := s4.heap.push { cls := .type "slice", data := .fields #[vl, vu, vs] } }
  obtain ⟨its, r, ht, hz⟩ := I5.list hx
  have hlen := r.length
  refine tail_any (ops := [.ref a, .ref s4.heap.objs.size]) ht.isList.typeIs slot_list_getitem.lookup ?_ (by with_unfolding_all rfl)
  refine wpAny_getItem_list_slice ht.isList (Heap.IsSliceOf.new ..) pl pu' po (by decide) ?_ (by rw [List.size_toArray] <;> omega)
  rw [pick_eq (ix1 _)]
  rw [hlen] at q
  refine ⟨.ref _, _, I5.laid (t' := s4.toks) (o := .lst (pickV (evIx 1 its.length) xs)) (fun b ob q => Heap.get?_push_of_some _ q) (Nat.le_refl _) ?_, rfl, q _ (I5.hok.fresh (Nat.le_refl _))⟩
  exact ⟨Nat.le_trans pick_len (Nat.le_trans (evIx_len (by decide)) (by omega)), _, 0, valsPick r _, Heap.get?_push_size _ rfl⟩
end
section
variable {X : Cx}
end
section
variable {lo : Int} {n k : Nat} {te : TE} {Q : VK} {σ : L2.St} {H : Hp}
end
end L3

namespace L3
open PySem PySem.Spec PyProof.Rows L2
def evL (c : Nat) (gs : List Nat) : List Nat := pickV (evIx c gs.length) gs
def zipR (a b : List Nat) : List (List Int) := (a.zip b).map fun p => [(p.1 : Int), (p.2 : Int)]
def flatR (a b : List Nat) : List Nat := (a.zip b).flatMap fun p => [p.1, p.2]
def mrg : Nat → List Nat → List Nat → List (List Int) × List Nat
  | 0, one, other => ([[((one.getD 0 0 : Nat) : Int), ((other.getD 0 0 : Nat) : Int)]], one ++ other)
  | n + 1, one, other => ((mrg n (evL 0 one) (evL 1 other)).1 ++ (mrg n (evL 1 one) (evL 0 other)).1 ++ zipR (mrg n (evL 0 one) (evL 1 other)).2 (mrg n (evL 1 one) (evL 0 other)).2, flatR (mrg n (evL 0 one) (evL 1 other)).2 (mrg n (evL 1 one) (evL 0 other)).2)
def cntN : Nat → List Nat → List (List Int) × List Nat
  | 0, ls => ([], ls)
  | n + 1, ls => ((cntN n (ls.take (2 ^ n))).1 ++ (cntN n (ls.drop (2 ^ n))).1 ++ (mrg n (cntN n (ls.take (2 ^ n))).2 (cntN n (ls.drop (2 ^ n))).2).1, (mrg n (cntN n (ls.take (2 ^ n))).2 (cntN n (ls.drop (2 ^ n))).2).2)
def cntB : Nat → Nat → List (List Int) × List Nat
  | 0, b => ([], [b])
  | n + 1, b => ((cntB n b).1 ++ (cntB n (b + 2 ^ n)).1 ++ (mrg n (cntB n b).2 (cntB n (b + 2 ^ n)).2).1, (mrg n (cntB n b).2 (cntB n (b + 2 ^ n)).2).2)
theorem natsV_pick {ks : List Nat} {gs : List Nat} : pickV ks (natsV gs) = natsV (pickV ks gs) := by
  unfold pickV natsV
  rw [List.map_filterMap]
  refine fm_congr fun k _ => ?_
  rw [List.getElem?_map]
theorem natsV_len {gs : List Nat} : (natsV gs).length = gs.length := by unfold natsV; rw [List.length_map]
theorem evL_natsV {c : Nat} {gs : List Nat} : pickV (evIx c (natsV gs).length) (natsV gs) = natsV (evL c gs) := by rw [natsV_pick, natsV_len]; rfl
theorem pick_all {α : Type} {xs : List α} : ∀ {ks : List Nat}, (∀ k ∈ ks, k < xs.length) → (pickV ks xs).length = ks.length := by
  intro ks
  induction ks with
  | nil => intro _; rfl
  | cons k ks ih =>
    intro h
    unfold pickV at ih ⊢
    rw [List.filterMap_cons_some (List.getElem?_eq_getElem (h k (by simp)))]
    rw [List.length_cons, List.length_cons, ih fun j hj => h j (by simp [hj])]
theorem evL_len {c n : Nat} {gs : List Nat} (hc : c ≤ 1) (h : gs.length = 2 ^ (n + 1)) : (evL c gs).length = 2 ^ n := by
  unfold evL
  rw [pick_all]
  · unfold evIx; rw [List.length_map, List.length_range, h, Nat.pow_succ]; omega
  · intro k hk
    unfold evIx at hk
    obtain ⟨i, hi, rfl⟩ := List.mem_map.mp hk
    have := List.mem_range.mp hi
    omega
theorem flat_len {a b : List Nat} (h : a.length = b.length) : (flatR a b).length = 2 * a.length := by
  unfold flatR
  rw [List.length_flatMap]
  have : ∀ l : List (Nat × Nat), (l.map fun p => ([p.1, p.2] : List Nat).length).sum = 2 * l.length := by
    intro l
    induction l with
    | nil => rfl
    | cons p l ih => rw [List.map_cons, List.sum_cons, ih]; show 2 + 2 * l.length = 2 * (l.length + 1); omega
  rw [this, List.length_zip]; omega
theorem mrg_len : ∀ n one other, one.length = 2 ^ n → other.length = 2 ^ n → (mrg n one other).2.length = 2 ^ (n + 1) ∧ (mrg n one other).1.length ≤ 4 ^ n := by
  intro n
  induction n with
  | zero =>
    intro one other h1 h2
    refine ⟨?_, Nat.le_refl _⟩
    show (one ++ other).length = 2
    rw [List.length_append, h1, h2]
  | succ n ih =>
    intro one other h1 h2
    have a := ih _ _ (evL_len (c := 0) (by decide) h1) (evL_len (c := 1) (by decide) h2)
    have b := ih _ _ (evL_len (c := 1) (by decide) h1) (evL_len (c := 0) (by decide) h2)
    refine ⟨?_, ?_⟩
    · show (flatR _ _).length = _
      rw [flat_len (by rw [a.1, b.1]), a.1, Nat.pow_succ 2 (n + 1)]; omega
    · show (_ ++ _ ++ zipR _ _).length ≤ _
      unfold zipR
      rw [List.length_append, List.length_append, List.length_map, List.length_zip, a.1, b.1]
      have e1 : 4 ^ (n + 1) = 4 * 4 ^ n := by rw [Nat.pow_succ]; omega
      have e2 : 2 ^ (n + 1) ≤ 2 * 4 ^ n := by
        rw [Nat.pow_succ, Nat.mul_comm]
        exact Nat.mul_le_mul_left 2 (Nat.pow_le_pow_left (by decide) n)
      omega
theorem cnt_len : ∀ n ls, ls.length = 2 ^ n → (cntN n ls).2.length = 2 ^ n ∧ (cntN n ls).1.length ≤ 4 ^ n := by
  intro n
  induction n with
  | zero => intro ls h; exact ⟨h, Nat.zero_le _⟩
  | succ n ih =>
    intro ls h
    have hp : 2 ^ (n + 1) = 2 * 2 ^ n := by rw [Nat.pow_succ]; omega
    have a := ih (ls.take (2 ^ n)) (by rw [List.length_take]; omega)
    have b := ih (ls.drop (2 ^ n)) (by rw [List.length_drop]; omega)
    have m := mrg_len n _ _ a.1 b.1
    refine ⟨m.1, ?_⟩
    show ((cntN n (ls.take (2 ^ n))).1 ++ (cntN n (ls.drop (2 ^ n))).1 ++ (mrg n (cntN n (ls.take (2 ^ n))).2 (cntN n (ls.drop (2 ^ n))).2).1).length ≤ _
    rw [List.length_append, List.length_append, Nat.pow_succ]
    omega
def passN (w : Nat) : List (List Int) → Int → Int
  | [], _ => 0
  | r :: rs, l => if l ∈ r then passN w rs (r.getD w 0) + 1 else passN w rs l
theorem tog_facts : ∀ k : Fin 4,
    ((cntN k.val (List.range (2 ^ k.val)) = cntB k.val 0 ∧ (cntB k.val 0).2.isPerm (List.range (2 ^ k.val)) = true) ∧ 4 * (cntB k.val 0).1.length = k.val * (k.val + 1) * 2 ^ k.val) ∧
    (∀ r ∈ (cntB k.val 0).1, r.length = 2 ∧ r.getD 0 0 ≠ r.getD 1 0) ∧ ∀ l : Fin 8, l.val < 2 ^ k.val → ∀ w : Fin 2, 2 * passN w.val (cntB k.val 0).1 l.val = (k.val : Int) * (k.val + 1) := by
  decide +kernel
def RowsIn (K : PySem.W.Frag) (H : Hp) (f : Addr) (rows : List (List Int)) : Prop := ∃ xs, H f = some (.lst xs) ∧ AllR (BoardAt K H) xs rows
def sp_merge (N : Nat) (K : PySem.W.Frag) : Sp := sp3 fun x y z H Q => ∃ (l1 l2 f : Addr) (one other : List Nat) (rows : List (List Int)) (n : Nat), x = .ref l1 ∧ y = .ref l2 ∧ z = .ref f ∧ n < N ∧
  H l1 = some (.lst (natsV one)) ∧ H l2 = some (.lst (natsV other)) ∧ RowsIn K H f rows ∧ one.length = 2 ^ n ∧ other.length = 2 ^ n ∧ n ≤ 3 ∧ rows.length + 4 ^ n ≤ 900 ∧ l1 ≠ f ∧ l2 ≠ f ∧
  ∀ r H', Grow [f] H H' → H r = none → H' r = some (.lst (natsV (mrg n one other).2)) → RowsIn K H' f (rows ++ (mrg n one other).1) → Q (.ref r) H'
theorem vac_merge {K : PySem.W.Frag} : ∀ vs H Q E, ¬ sp_merge 0 K vs H Q E := by
  rintro vs H Q E ⟨x, y, z, rfl, l1, l2, f, one, other, rows, n, _, _, _, h, _⟩
  omega
def sp_cntl (N : Nat) (K : PySem.W.Frag) : Sp := sp2 fun x z H Q => ∃ (l f : Addr) (ls : List Nat) (rows : List (List Int)) (n : Nat), x = .ref l ∧ z = .ref f ∧ n < N ∧
  H l = some (.lst (natsV ls)) ∧ RowsIn K H f rows ∧ ls.length = 2 ^ n ∧ n ≤ 3 ∧ rows.length + 4 ^ n ≤ 900 ∧ l ≠ f ∧
  ∀ r H', Grow [f] H H' → r ≠ f → H' r = some (.lst (natsV (cntN n ls).2)) → RowsIn K H' f (rows ++ (cntN n ls).1) → Q (.ref r) H'
theorem vac_cntl {K : PySem.W.Frag} : ∀ vs H Q E, ¬ sp_cntl 0 K vs H Q E := by
  rintro vs H Q E ⟨x, z, rfl, l, f, ls, rows, n, _, _, h, _⟩
  omega
theorem RowsIn.grow {K : PySem.W.Frag} {H H' : Hp} {f : Addr} {rows : List (List Int)} (h : RowsIn K H f rows) (g : Grow [] H H') : RowsIn K H' f rows := by
  obtain ⟨xs, e, a⟩ := h
  exact ⟨xs, g.keep _ _ (by simp) e, g.boardsR a⟩
theorem RowsIn.ne {K : PySem.W.Frag} {H : Hp} {f r : Addr} {rows : List (List Int)} (h : RowsIn K H f rows) (e : H r = none) : r ≠ f := by
  obtain ⟨xs, e', _⟩ := h
  intro z; rw [z, e'] at e; cases e
theorem natsV_ix {gs : List Nat} {i : Nat} {x : V} (h : (natsV gs)[i]? = some x) : ∃ g, gs[i]? = some g ∧ x = .int g := by
  unfold natsV at h
  rw [List.getElem?_map] at h
  obtain ⟨g, e, rfl⟩ := Option.map_eq_some_iff.mp h
  exact ⟨g, e, rfl⟩
theorem zip_take {a b : List Nat} {i x y : Nat} (ha : a[i]? = some x) (hb : b[i]? = some y) : zipR (a.take (i + 1)) (b.take (i + 1)) = zipR (a.take i) (b.take i) ++ [[(x : Int), (y : Int)]] ∧ flatR (a.take (i + 1)) (b.take (i + 1)) = flatR (a.take i) (b.take i) ++ [x, y] := by
  have la := (List.getElem?_eq_some_iff.mp ha).1
  have lb := (List.getElem?_eq_some_iff.mp hb).1
  have e : (a.take (i + 1)).zip (b.take (i + 1)) = (a.take i).zip (b.take i) ++ [(x, y)] := by
    rw [List.take_add_one, List.take_add_one, ha, hb]
    exact List.zip_append (by rw [List.length_take, List.length_take]; omega)
  unfold zipR flatR
  rw [e, List.map_append, List.flatMap_append]
  exact ⟨rfl, rfl⟩
theorem natsV_app {a b : List Nat} : natsV (a ++ b) = natsV a ++ natsV b := by unfold natsV; exact List.map_append
theorem Grow.shrink2 {H H' : Hp} {f l : Addr} (g : Grow [f, l] H H') (h : H l = none) : Grow [f] H H' :=
  ⟨fun b o hb q => g.keep b o (fun z => by rcases List.mem_cons.mp z with z | z; exact hb (by simp [z]); rw [List.mem_singleton.mp z, h] at q; cases q) q, g.tup, g.frz⟩
end L3
namespace L3
open PySem PySem.Spec PyProof.Rows L2
end L3
namespace L3
open PySem PySem.Spec PyProof.Rows L2
theorem natsV_get? {gs : List Nat} {i g : Nat} (h : gs[i]? = some g) : (natsV gs)[i]? = some (.int g) := by unfold natsV; rw [List.getElem?_map, h]; rfl
theorem RowsIn.set {K : PySem.W.Frag} {H : Hp} {f : Addr} {rows : List (List Int)} {xs : List V} (e : H f = some (.lst xs)) (a : AllR (BoardAt K H) xs rows) : RowsIn K H f rows := ⟨xs, e, a⟩
end L3
namespace L3
open PySem PySem.Spec PyProof.Rows L2
theorem inV_ints {l : Int} {ns : List Int} : inV (.int l) (ns.map V.int) = decide (l ∈ ns) := by
  unfold inV
  rw [Bool.eq_iff_iff, List.any_eq_true, decide_eq_true_iff]
  constructor
  · rintro ⟨y, hy, e⟩
    obtain ⟨i, hi, rfl⟩ := List.mem_map.mp hy
    have : i = l := by simpa [eqV] using e
    rw [← this]; exact hi
  · intro h
    exact ⟨.int l, List.mem_map.mpr ⟨l, h, rfl⟩, by simp [eqV]⟩
end L3

namespace L3
open PySem PySem.Spec PyProof.Rows L2
structure CScC (X : Cx) (scope : Scope) (N' : List Str) (sub : List (Option Nat)) : Prop where
  free : ∀ y ∈ scope.names, y.2 = .free → X.env.kindOf y.1 = some .cell
  nd : (scope.names.map (·.1)).Nodup
  kind : scope.kind = .function
  names : ∀ y ∈ scope.names, y.2 = .local → scope.names.lookup y.1 = some .local
  len : sub.length = N'.length
  cap : ∀ (j : Nat) (y : Str) (i : Nat), N'[j]? = some y → sub[j]? = some (some i) → X.N[i]? = some y ∧ X.env.scope.names.lookup y = some .cell ∧ scope.names.lookup y = some .free
section
variable {X : Cx} {pins : List (Addr × Obj)} {σ : L2.St} {H2 : Hp} {s₂ : Shared} {it : Addr} {fp : List Addr} {tn : Nat → Heap → Prop} {J : It} {scope : Scope} {cl : List (Str × Addr)} {N' : List Str} {sub : List (Option Nat)}
end
section
variable {X : Cx} {scope : Scope} {N' : List Str} {sub : List (Option Nat)} {tg : Expr} {pos : Pos} {elt iter : Expr} {ifs : List Expr} {wi : TI} {g : TG} {tt : TT} {te : TE}
theorem CScC.clos {pins : List (Addr × Obj)} {σ : L2.St} {H : Hp} {s : Shared} (S : CScC X scope N' sub) (I : Inv X pins σ H s) : ∃ cl, closureFor scope X.env = pure cl ∧ (∀ x c, cl.lookup x = some c → X.env.cells.lookup x = some c) ∧ ∀ y ∈ scope.names, y.2 = .free → ∃ c, cl.lookup y.1 = some c :=
  closure_ok fun y hy hf => I.ok.has y.1 (.inl (S.free y hy hf))
end
end L3

namespace L3
open PySem PySem.Spec PyProof.Rows L2
theorem CScC.of {X : Cx} {scope : Scope} {N' : List Str} {sub : List (Option Nat)} (sc : Scope) (NN : List Str) (e : X.env.scope = sc) (en : X.N = NN)
    (h : ((scope.names.all fun y => (y.2 != .free || sc.names.lookup y.1 == some .cell) && (y.2 != .local || scope.names.lookup y.1 == some .local)) && (sub.length == N'.length) &&
      ((N'.zip sub).all fun p => match p.2 with | none => true | some i => NN[i]? == some p.1 && sc.names.lookup p.1 == some .cell && scope.names.lookup p.1 == some .free)) = true)
    (nd : (scope.names.map (·.1)).Nodup) (hk : scope.kind = .function) : CScC X scope N' sub := by
  rw [Bool.and_eq_true, Bool.and_eq_true] at h
  obtain ⟨⟨h1, h2⟩, h3⟩ := h
  have k1 := fun y hy => List.all_eq_true.mp h1 y hy
  refine ⟨fun y hy hf => ?_, nd, hk, fun y hy hl => ?_, by simpa using h2, fun j y i hj hs => ?_⟩
  · have := k1 y hy
    simp only [hf, Bool.and_eq_true] at this
    have z := this.1
    show X.env.scope.names.lookup y.1 = _
    rw [e]; simpa using z
  · have := k1 y hy
    simp only [hl, Bool.and_eq_true] at this
    simpa using this.2
  · have hm : (y, some i) ∈ N'.zip sub := by
      have : (N'.zip sub)[j]? = some (y, some i) := by
        rw [List.getElem?_zip_eq_some]; exact ⟨hj, hs⟩
      exact List.mem_of_getElem? this
    have := List.all_eq_true.mp h3 _ hm
    simp only [Bool.and_eq_true, beq_iff_eq] at this
    rw [e, en]
    exact ⟨this.1.1, this.1.2, this.2⟩
end L3

namespace L3
open PySem PySem.Spec PyProof.Rows L2
theorem AllOk.at {ds : List Deed} (h : AllOk ds) {i : Nat} (hi : i < ds.length) : (ds.getD i look).Ok := h _ (List.mem_of_getElem? (getDd hi))
structure MixOk (m : List Nat) : Prop where
  nd : m.Nodup
  lt : ∀ j ∈ m, j < m.length
  has : ∀ j, j < m.length → j ∈ m
theorem MixOk.of {m : List Nat} {n : Nat} (h : m.Perm (List.range n)) : MixOk m ∧ m.length = n := by
  have hl : m.length = n := by rw [h.length_eq, List.length_range]
  refine ⟨⟨(h.nodup_iff).mpr List.nodup_range, fun j hj => ?_, fun j hj => ?_⟩, hl⟩
  · rw [hl]; exact List.mem_range.mp (h.mem_iff.mp hj)
  · exact h.mem_iff.mpr (List.mem_range.mpr (by omega))
theorem MixOk.at {m : List Nat} (h : MixOk m) {j : Nat} (hj : j < m.length) : m.idxOf j < m.length ∧ m.getD (m.idxOf j) 0 = j := by
  have hl := List.idxOf_lt_length_of_mem (h.has j hj)
  refine ⟨hl, ?_⟩
  rw [List.getD_eq_getElem?_getD, List.getElem?_eq_getElem hl]
  exact List.getElem_idxOf hl
end L3

namespace L3
open PySem PySem.Spec PyProof.Rows L2
section
variable {X : Cx} {K : PySem.W.Frag}
end
end L3
namespace L3
open PySem PySem.Spec PyProof.Rows L2
end L3

namespace L3
open PySem PySem.Spec PyProof.Rows L2
structure WkD (prog : Program) (w : World) (A : Around) (T : String) (I : Addr) (n : Nat) (Fr : Addr → Prop) (J : List Value → Shared → Prop) (Fn : List Value → Shared → Prop) : Prop where
  ty : ∀ acc s, J acc s → s.TypeIs (.ref I) T
  self : ∀ acc s (Q : Value → Shared → Prop) (E : Value → Shared → Prop), J acc s → Q (.ref I) s → wpAny (model prog w) A (pyIter (.ref I)) Q E s
  stay : ∀ acc s (S : Addr) (ob : Obj) (h' : Heap), J acc s → Fr S → s.heap.get? S = some ob → (ob.cls = .type "list" ∧ ∀ v, ob.data ≠ .cell v) → (∀ b o, b ≠ S → s.heap.get? b = some o → h'.get? b = some o) → h'.objs.size = s.heap.objs.size → J acc { s with heap := h' }
  next : ∀ acc s (S : Addr) (ob : Obj) (Q : Option Value → Shared → Prop) (E : Value → Shared → Prop), J acc s → Fr S → s.heap.get? S = some ob → (ob.cls = .type "list" ∧ ∀ v, ob.data ≠ .cell v) →
    (∀ v s', acc.length < n → J (acc ++ [v]) s' → s'.heap.get? S = some ob → Q (some v) s') → (∀ s', Fn acc s' → s'.heap.get? S = some ob → Q none s') → wpAny (model prog w) A (pyNext (.ref I)) Q E s
  push : ∀ acc s (o : Obj), J acc s → J acc { s with heap := s.heap.push o }
section
variable {prog : Program} {w : World} {A : Around} {R : Result → Shared → Prop} {T : String} {I : Addr} {n : Nat} {Fr : Addr → Prop} {J Fn : List Value → Shared → Prop}
end
section
variable {prog : Program} {w : World} {A : Around} {E : Value → Shared → Prop} {s : Shared} {T : String} {I : Addr} {n : Nat} {Fr : Addr → Prop} {J Fn : List Value → Shared → Prop}
end
section
variable {X : Cx} {pins : List (Addr × Obj)} {σ : L2.St} {fp : List Addr} {it : Addr} {tn : Nat → Heap → Prop} {Jt : It} {nm : Str} {pt : Pos} {cls : String} {H0 : Hp} {S0 : Addr} {n : Nat}
end
section
variable {X : Cx} {K : PySem.W.Frag} {a b : Expr} {ta : TA} {p p2 pos pos2 : Pos}
theorem SqC.grow {c : Bool} {H H' : Hp} {a : Addr} {xs : List V} (g : Grow [] H H') (h : SqC c K H a xs) : SqC c K H' a xs := by
  cases c
  · exact g.sqL h
  · exact g.sqT h
end
end L3

namespace L3
open PySem PySem.Spec PyProof.Rows L2 HT
section
variable {prog : Program} {w : World} {A : Around} {E : Value → Shared → Prop} {s : Shared}
end
section
variable {X : Cx} {K : PySem.W.Frag}
end
end L3

namespace L3
open PySem PySem.Spec PyProof.Rows L2
end L3
namespace L3
open PySem PySem.Spec PyProof.Rows L2
end L3
namespace L3
open PySem PySem.Spec PyProof.Rows L2
end L3

namespace L3
open PySem PySem.Spec PyProof.Rows L2
def MCallee (P : Program) (w : World) (K : PySem.W.Frag) (mg : Str → Option Value) (base : Heap) (C : Addr) (k : Nat) (m : Str) (ps : List Str) (sp : Sp) : Prop :=
  ∃ (f : Addr) (fd : FuncData), FnOk P w K mg base CX0 k f fd ps sp ∧ Binds K fd ps [] ∧ Meth K C m f
def MkCallee (P : Program) (w : World) (K : PySem.W.Frag) (mg : Str → Option Value) (base : Heap) (C : Addr) (k : Nat) (ps : List Str) (sp : Sp) : Prop :=
  ∃ (j : Nat) (f : Addr) (fd : FuncData), j + 1 = k ∧ FnOk P w K mg base CX0 j f fd ps sp ∧ Binds K fd ps [] ∧ Mk K C f
section
variable {P : Program} {w : World} {K : PySem.W.Frag} {mg : Str → Option Value} {base : Heap} {C : Addr} {j k : Nat} {m : Str} {ps : List Str} {sp : Sp}
theorem MCallee.mono (c : MCallee P w K mg base C j m ps sp) (h : j ≤ k) : MCallee P w K mg base C k m ps sp := by
  obtain ⟨f, fd, F, b, mt⟩ := c
  exact ⟨f, fd, F.mono h, b, mt⟩
theorem MkCallee.mono (c : MkCallee P w K mg base C j ps sp) (h : j ≤ k) : MkCallee P w K mg base C k ps sp := by
  obtain ⟨i, f, fd, e, F, b, mt⟩ := c
  exact ⟨k - 1, f, fd, by omega, F.mono (by omega), b, mt⟩
theorem MCallee.make {f0 : Addr} (c : MCallee P w K mg base C k "__init__" ps sp) (mt : Mk K C f0) : MkCallee P w K mg base C (k + 1) ps sp := by
  obtain ⟨f, fd, F, b, m⟩ := c
  have e := m.at_
  rw [mt.init] at e
  cases e
  exact ⟨k, f0, fd, rfl, F, b, mt⟩
end
section
variable {X : Cx} {K : PySem.W.Frag} {C : Addr} {k : Nat} {m x : Str} {ps : List Str} {sp : Sp} {o e : Expr} {es : List Expr} {ta : TE} {t : TA} {apos pos p : Pos} {f : Str}
theorem pe_methC {pl : Sem Bool} (c : MCallee X.prog X.w X.K X.mg X.base C k m ps sp) (cl : Cls X.K C) (hr : Room k X.A) (he : PE X o ta) (ha : PA X (e :: es) t)
    (hst : starEach (e :: es) X.env = (false, eval e X.env) :: starEach es X.env := by rfl) (hpl : (backTo pos (starEach es X.env)).any (·.1) = false := by rfl)
    (ht : eval (.Call (.Attribute o m apos) (e :: es) [] pos) X.env = (do
      let ov ← eval o X.env
      standAt apos.atName
      let (f, first) ← holding [ov] (getMethod ov m pl)
      callWith pos f first (backTo pos (starEach (e :: es) X.env)) (backToKw pos (keywordEach [] X.env))) := by rfl) :
    PE X (.Call (.Attribute o m apos) (e :: es) [] pos) (tMeth C m sp [] E0 ta t) := by
  obtain ⟨f, fd, F, b, mt⟩ := c
  exact pe_meth he cl mt F hr b .nil pass0 ha hst hpl ht
theorem pe_methC0 {pl : Sem Bool} (c : MCallee X.prog X.w X.K X.mg X.base C k m ps sp) (cl : Cls X.K C) (hr : Room k X.A) (he : PE X o ta)
    (ht : eval (.Call (.Attribute o m apos) [] [] pos) X.env = (do
      let ov ← eval o X.env
      standAt apos.atName
      let (f, first) ← holding [ov] (getMethod ov m pl)
      callWith pos f first (backTo pos (starEach [] X.env)) (backToKw pos (keywordEach [] X.env))) := by rfl) :
    PE X (.Call (.Attribute o m apos) [] [] pos) (tMeth C m sp [] E0 ta tNil) := by
  obtain ⟨f, fd, F, b, mt⟩ := c
  exact pe_meth0 he cl mt F hr b .nil pass0 ht
theorem pe_makeC (c : MkCallee X.prog X.w X.K X.mg X.base C k ps sp) (hr : Room k X.A) (hg : Gl X x) (hm : X.mg x = some (.ref C))
    (ha : PA X (e :: es) t) (hdb : (x == ("__debug__" : Str)) = false := by decide) (he : starEach (e :: es) X.env = (false, eval e X.env) :: starEach es X.env := by rfl) (hpl : (backTo pos (starEach es X.env)).any (·.1) = false := by rfl) :
    PE X (.Call (.Name x p) (e :: es) [] pos) (tMake C sp [] E0 t) := by
  obtain ⟨j, f, fd, rfl, F, b, mt⟩ := c
  exact pe_make mt F hr hg hm b .nil pass0 ha hdb he hpl
theorem pe_fldK (hK : X.K = K) (he : PE X e ta) (hb : attributeBase e f X.env (eval e X.env) = eval e X.env) : PE X (.Attribute e f pos) (tFld K ta f) := by
  subst hK
  exact pe_fld he hb
end
theorem Grow.setI {m : List Addr} {H : Hp} {p C dx : Addr} {fs : List (Str × V)} (h : H p = some (.ins C dx fs)) (hm : p ∈ m) (o : HO) : Grow m H (upd H p o) :=
  ⟨fun b u hb q => by rw [upd_ne (show b ≠ p from fun z => hb (by rw [z]; exact hm))]; exact q, fun b zs q => by rw [upd_ne (fun z => by subst z; rw [h] at q; cases q)]; exact q, fun b u v q => by rw [upd_ne (fun z => by subst z; rw [h] at q; cases q)]; exact q⟩
structure CTxt (K : PySem.W.Frag) (mg : Str → Option Value) (C : Addr) : Prop where
  cl : Cls K C
  n1 : NoAttr K C "depth"
  n2 : NoAttr K C "gates"
  n3 : NoAttr K C "out_lines"
  n4 : NoAttr K C "ups"
  n5 : NoAttr K C "tokens"
  n6 : NoAttr K C "came_out"
  n7 : NoAttr K C "given"
  mgC : mg "Counter" = some (.ref C)
end L3

namespace L3
open PySem PySem.Spec PyProof.Rows L2
def ixBody (us : Array Value) (x : Value) : Nat → Option PySem.Fin × Unit → Sem (ForInStep (Option PySem.Fin × Unit)) := fun i _ =>
  match us[i]? with
  | some y => do
    let b ← eqBool y x
    if b = true then do
      let r ← retInt i
      pure (ForInStep.done (some r, ()))
    else pure (ForInStep.yield (none, ()))
  | _ => pure (ForInStep.yield (none, ()))
theorem ix_loop {prog : Program} {w : World} {A : Around} {E : Value → Shared → Prop} {s : Shared} {us : Array Value} {x : Value} {e : Value → Bool} {j : Nat} {Q : Option PySem.Fin × Unit → Shared → Prop} (hj : j < us.size) (hit : e us[j] = true) (hno : ∀ m (hm : m < us.size), m < j → e us[m] = false)
    (he : ∀ y, y ∈ us → SeqAt.EqAt A s y x (e y)) (q : Q (some (Fin.done (.ret (.int j s.toks))), ()) { s with toks := s.toks + 1 }) :
    ∀ k i : Nat, j - i = k → i ≤ j → wpAny (model prog w) A (forIn (List.range' i (us.size - i)) (none, ()) (ixBody us x)) Q E s := by
  intro k
  induction k with
  | zero =>
    intro i hk hij
    have e0 : i = j := by omega
    subst e0
    rw [show us.size - i = (us.size - i - 1) + 1 by omega, List.range'_succ, List.forIn_cons]
    refine wpAny_bind ?_
    unfold ixBody
    rw [show us[i]? = some us[i] by simp [hj]]
    refine wpAny_bind (he _ (Array.getElem_mem hj) prog w _ _ ?_)
    rw [hit]
    show wpAny _ _ (retInt i >>= _) _ _ s
    refine wpAny_bind (wpAny_bind (wpAny_mkInt (wpAny_pure ?_)))
    exact wpAny_pure (wpAny_pure q)
  | succ k ih =>
    intro i hk hij
    have hlt : i < us.size := by omega
    rw [show us.size - i = (us.size - (i + 1)) + 1 by omega, List.range'_succ, List.forIn_cons]
    refine wpAny_bind ?_
    unfold ixBody
    rw [show us[i]? = some us[i] by simp [hlt]]
    refine wpAny_bind (he _ (Array.getElem_mem hlt) prog w _ _ ?_)
    rw [hno i hlt (by omega)]
    exact wpAny_pure (ih (i + 1) (by omega) (by omega))
theorem tup_idx (l : Addr) (us : Array Value) (n : Nat) (dd : Option Addr) (sl : Array (Option Value)) (x : Value) (e : Value → Bool) (j : Nat) (hj : j < us.size) (hit : e us[j] = true) (hno : ∀ m (hm : m < us.size), m < j → e us[m] = false) :
    Meets (Builtin.«tuple.index» ⟨[.ref l, x], []⟩) (fun A R s => s.heap.get? l = some ⟨.type "tuple", dd, .seq us n, sl⟩ ∧ (∀ y, y ∈ us → SeqAt.EqAt A.in1 s y x (e y)) ∧ R (.ok (.ret (.int j s.toks))) { s with toks := s.toks + 1 }) := by
  intro prog w A R s h
  obtain ⟨hl, he, q⟩ := h
  unfold Builtin.«tuple.index»
  refine wpAny_bind (m := selfAndSome "tuple.index" "index" 1 3 _) (wpAny_pure ?_)
  show wpAny _ _ (Builtin.Tuple.tupleItemsOf (.ref l) >>= _) _ _ s
  refine wpAny_bind (tupleItemsOf_ ⟨_, hl, rfl, n, rfl⟩ ?_)
  show wpAny _ _ ((forIn [0:min us.size us.size] (none, ()) (ixBody us x)) >>= _) _ _ s
  refine wpAny_bind ?_
  rw [Nat.min_self]
  first | rw [Std.Legacy.Range.forIn_eq_forIn_range'] | simp only [Std.Legacy.Range.forIn_eq_forIn_range']
  have z := ix_loop (prog := prog) (w := w) (A := A.in1) (E := fun e s' => R (.error e) s') (s := s) (us := us) (x := x) (e := e) (j := j) (Q := fun a s' => wpAny (model prog w) A.in1 (match a.fst with
        | some r => pure r
        | none => do
          rule "tuple.index.not-found"
          raiseErrorWords "ValueError" "tuple.index(x): x not in tuple") (fun fin s' => match fin with | .done f => R (.ok f) s' | .again c' => c'.quiet = true ∧ codeAny (model prog w) A c' R s') (fun e s' => R (.error e) s') s') hj hit hno he (wpAny_pure q) j 0 rfl (Nat.zero_le _)
  rw [Nat.sub_zero] at z
  simp only [Std.Legacy.Range.size, Nat.sub_zero, Nat.add_sub_cancel, Nat.div_one]
  exact wpAny_mono z (fun a s' h => by obtain ⟨o, u⟩ := a; cases o <;> exact h) (fun _ _ h => h)
section
variable {X : Cx} {K : PySem.W.Frag}
theorem mt_tindex (hK : X.K = K) : MtR X "tuple.index" (fun x vs H Q => ∃ (l : Addr) (ns : List Nat) (j : Nat), x = .ref l ∧ vs = [.int j] ∧ SqT K H l (natsV ns) ∧ j ∈ ns ∧ ns.length ≤ 1000 ∧ Q (.int (ns.idxOf j : Nat)) H) := by
  subst hK
  intro pins s σ H x vs v us Q I rx rv h
  obtain ⟨l, ns, j, rfl, rfl, hq, hj, hl, q⟩ := h
  cases rx
  obtain ⟨u, rfl, t, rfl⟩ := vals1 rv
  obtain ⟨its, r, ⟨o, ho, hc, n, hd⟩, hz⟩ := I.tuple hq
  obtain ⟨oc, od, oda, osl⟩ := o
  cases hc
  cases hd
  have hlen := r.length
  rw [natsV_len] at hlen
  have hp := List.idxOf_lt_length_of_mem hj
  have at_ : ∀ m, m < ns.length → ∃ t, its[m]? = some (.int (ns.getD m 0 : Nat) t) := fun m hm => by
    have e1 : (natsV ns)[m]? = some (.int (ns.getD m 0 : Nat)) := natsV_get? (by rw [List.getD_eq_getElem?_getD, List.getElem?_eq_getElem hm]; rfl)
    obtain ⟨u, hu, t, rfl⟩ := r.get e1
    exact ⟨t, hu⟩
  have hjj : ∀ m (hm : m < its.toArray.size), ∃ t, its.toArray[m] = .int (ns.getD m 0 : Nat) t := fun m hm => by
    have hm' : m < its.length := by simpa using hm
    obtain ⟨t, e⟩ := at_ m (by omega)
    rw [List.getElem?_eq_getElem hm'] at e
    exact ⟨t, by simpa using Option.some.inj e⟩
  have key : ∀ (x : Int), x = (j : Int) → ∀ (p : Nat), p = ns.idxOf j → wpAny (model X.prog X.w) X.A (call (.builtin "tuple.index") (.ref l :: [.int x t])) (EP X pins σ Q) X.xe s := by
    intro x hx p hpp
    have hp' : p < its.toArray.size := by simp; omega
    refine call_meets F.slot_tuple_index ⟨_, ho, rfl⟩ F.entry_tuple_index (F.args_tuple_index_2 _ _)
      (tup_idx l its.toArray n od osl (.int x t) (fun v => match v with | .int a _ => a == x | _ => false) p hp' ?_ ?_) ⟨ho, ?_, ?_⟩
    · obtain ⟨t', e⟩ := hjj p hp'
      rw [e]
      show ((ns.getD p 0 : Nat) : Int) == x
      have : ns.getD p 0 = j := by
        rw [hpp, List.getD_eq_getElem?_getD, List.getElem?_eq_getElem hp]
        exact List.getElem_idxOf hp
      rw [this, hx]; simp
    · intro m hm hlt
      obtain ⟨t', e⟩ := hjj m hm
      rw [e]
      show (((ns.getD m 0 : Nat) : Int) == x) = false
      have hne : ns.getD m 0 ≠ j := by
        have hm' : m < ns.length := by rw [hlen]; simpa using hm
        intro z
        have z' : ns[m] = j := by rw [← z, List.getD_eq_getElem?_getD, List.getElem?_eq_getElem hm']; rfl
        have := List.not_of_lt_findIdx (p := (· == j)) (xs := ns) (i := m) (by rw [hpp] at hlt; exact hlt)
        rw [z'] at this; simp at this
      rw [hx]
      exact beq_false_of_ne fun z => hne (Int.ofNat.inj z)
    · intro y hy
      obtain ⟨m, hm, rfl⟩ := List.getElem_of_mem (by simpa using hy : y ∈ its)
      obtain ⟨t', e⟩ := hjj m (by simpa using hm)
      have e' : its[m] = .int (ns.getD m 0 : Nat) t' := by simpa using e
      rw [e']
      exact SeqAt.EqAt.int_int _ _ _ _
    · exact ⟨.int (ns.idxOf j : Nat), H, I.tok _, ⟨_, by rw [hpp]⟩, q⟩
  exact key _ rfl _ rfl
def FrT (H : Hp) (r : Addr) (xs : List V) : Prop := ∃ o : Obj, H r = some (.frz o (.tup xs)) ∧ o.cls = .type "tuple" ∧ o.dict = none
theorem FrT.sqT {H : Hp} {r : Addr} {xs : List V} (h : FrT H r xs) : SqT K H r xs := by
  obtain ⟨o, e, _⟩ := h
  exact .inl (.inr ⟨o, e⟩)
theorem Grow.frT {m : List Addr} {H H' : Hp} (g : Grow m H H') {r : Addr} {xs : List V} (h : FrT H r xs) : FrT H' r xs := by
  obtain ⟨o, e, c, d⟩ := h
  exact ⟨o, g.frz _ _ _ e, c, d⟩
theorem call_tupleF : CallR X (.type "tuple") (fun xs H Q => ∃ p ys, xs = [.ref p] ∧ SqL X.K H p ys ∧ ∀ (l : Addr) (o : Obj), H l = none → o.cls = .type "tuple" → o.dict = none → Q (.ref l) (upd H l (.frz o (.tup ys)))) := by
  intro pins s σ H xs us Q I r h
  obtain ⟨p, ys, rfl, hq, q⟩ := h
  obtain ⟨u, rfl, rx⟩ := vals1 r
  cases rx
  obtain ⟨its, r', pl, hz⟩ := I.list hq
  have hlen := r'.length
  refine call_tuple_list pl.isList (fun h' kp => ?_) (by simp only [List.size_toArray] <;> omega)
  have I1 : Inv X pins σ H { s with heap := h' } := I.kept (t' := s.toks) kp
  have I2 : Inv X pins σ (upd H h'.objs.size (.frz { cls := .type "tuple", data := .seq its.toArray } (.tup ys))) { s with heap := h'.push { cls := .type "tuple", data := .seq its.toArray } } :=
    I1.laid (t' := s.toks) (fun b o e => Heap.get?_push_of_some _ e) (Nat.le_refl _) (show ObjOk X.prog X.w _ _ _ (.frz _ (.tup ys)) from ⟨Heap.get?_push_size _ rfl, hz, its, r', IsTup.new _ _⟩)
  exact ⟨.ref h'.objs.size, _, I2, rfl, q _ _ (I1.hok.fresh (Nat.le_refl _)) rfl rfl⟩
def tBMF (r : V → List V → Hp → VK → Prop) (to : TE) (t : TA) : TE := fun σ H Q => to σ H fun x H1 => (∃ p ys, x = .ref p ∧ FrT H1 p ys) ∧ t σ H1 fun xs H2 => r x xs H2 Q
theorem pe_bmF {name : Str} {id : String} {r : V → List V → Hp → VK → Prop} {o e : Expr} {es : List Expr} {to : TE} {t : TA} {apos cpos : Pos} (pa : PlainAttrs "tuple") (slot : Slot "tuple" name id) (hty : typeOf (.builtin id) = pure (.type "method_descriptor")) (hm : MtR X id r) (ho : PE X o to) (ha : PA X (e :: es) t)
    (hbase : attributeBase o name X.env (eval o X.env) = eval o X.env := by rfl)
    (hfew : ((backTo cpos (starEach (e :: es) X.env)).all (fun x => !x.1) && (backToKw cpos (keywordEach [] X.env)).all (fun x => x.1.isSome)
      && decide ((e :: es).length + ([] : List Keyword).length + (if ([] : List Keyword).isEmpty then 0 else 1) < 30)) = true := by rfl)
    (hline : (apos.endLine == cpos.line) = true := by rfl) (hs : starEach (e :: es) X.env = (false, eval e X.env) :: starEach es X.env := by rfl) (hplain : (backTo cpos (starEach es X.env)).any (·.1) = false := by rfl) :
    PE X (.Call (.Attribute o name apos) (e :: es) [] cpos) (tBMF r to t) := by
  intro pins s σ H Q I h
  refine wpAny_Call_method_late hbase hfew hline rfl (thn (ho pins s σ H _ I h) fun v s1 ⟨x, H1, I1, r1, ⟨p, ys, ex, ob, ho', hc, hd⟩, q1⟩ => ?_)
  subst ex
  cases r1
  obtain ⟨hg, _⟩ := I1.hok p _ ho'
  refine ⟨"tuple", id, pa, slot, hty, ⟨ob, hg, hc⟩, fun a e => (by cases e; exact ⟨ob, hg, hd⟩), ?_⟩
  have hA := ha cpos pins s1 σ H1 _ I1 q1
  rw [hs] at hA ⊢
  refine Calls.callWith_builtin (by show (false || (backTo cpos (starEach es X.env)).any (·.1)) = false; rw [hplain] <;> rfl) (Calls.evalArgs_plain ?_)
  exact thn hA fun us s2 ⟨vs, H2, I2, r2, q2⟩ => hm pins s2 σ H2 (.ref p) vs (.ref p) us Q I2 rfl r2 q2
end
end L3

namespace L3
open PySem PySem.Spec PyProof.Rows L2
def Trc (h : Heap) (e T : Addr) (cls : Value) : Prop :=
  ∃ oe vs oT ts, h.get? e = some oe ∧ oe.cls = cls ∧ oe.data = .fields vs ∧ vs[1]? = some (.ref T) ∧ T ≠ e ∧ h.get? T = some oT ∧ oT.data = .fields ts ∧ ts[3]? = some .none
structure Lft (fr : List Addr) (e T0 T : Addr) (cls : Value) (h h' : Heap) : Prop where
  keep : ∀ b o, b ∉ fr → b ≠ e → b ≠ T0 → h.get? b = some o → h'.get? b = some o
  slot : ∀ b o, b ∈ fr → b ≠ e → b ≠ T0 → h.get? b = some o → ∃ sl, h'.get? b = some { o with slots := sl }
  new : h.get? T = none
  trc : Trc h' e T cls
section
variable {M : Model} {A : Around} {E : Value → Shared → Prop} {s : Shared}
theorem entry_exact {base : Heap} {env : Env} {outer : List Env} {L e : Addr} {oe : Obj} {vs : Array Value} {head : Value} {hadNext : Bool} {Q : Unit → Shared → Prop}
    (hfr : A.frames = some (env :: outer)) (hl : s.heap.FunFrames base (env :: outer)) (hf : env.frame = some L)
    (he : s.heap.get? e = some oe) (hd : oe.data = .fields vs) (hsz : 1 < vs.size)
    (h : ∀ h' T, Lft ((env :: outer).filterMap (·.frame)) e e T oe.cls s.heap h' → Q () { s with heap := h' }) :
    wpAny M A (do let a ← frameOf env; let pl ← entryPlaceOf L hadNext; let b ← EntryCells.newEntry head a .none (rawInt L) .none pl; setField (.ref e) 1 b) (fun _ s' => wpAny M A (setFlight (.ref e) none) Q E s') E s := by
  have hne : e ∉ (env :: outer).filterMap (·.frame) := fun hm => by
    obtain ⟨_, o, ho, hnf⟩ := hl.mem hm
    rw [he] at ho
    cases ho
    exact hnf vs hd
  refine wpAny_bind (wpAny_frameOf_fun hfr hl hf fun h1 s1 => ?_)
  refine wpAny_bind (wpAny_entryPlaceOf fun pl hpl => ?_)
  unfold EntryCells.newEntry newFields
  refine wpAny_bind (wpAny_newObj_type ?_ (hpl.sizeOk5 _ _ _ _ _))
  have e1 : h1.get? e = some oe := (s1.2.1 e hne).trans he
  have hTe : h1.objs.size ≠ e := Nat.ne_of_gt (Heap.lt_size e1)
  generalize hT : ({ cls := .type "traceback", dict := none, data := .fields ([head, .ref L, .none, rawInt L, .none] ++ (if pl.isEmpty then List.replicate 6 Value.none else pl)).toArray } : Obj) = oT
  have hTd : oT.data = .fields ([head, .ref L, .none, rawInt L, .none] ++ (if pl.isEmpty then List.replicate 6 Value.none else pl)).toArray := by rw [← hT]
  have hTf : oT.isFreed = false := Obj.isFreed_of_fields hTd
  have e2 := Heap.get?_push_of_some (h := h1) oT e1
  refine wpAny_setField e2 hd hsz ?_
  have d3 := Obj.data_mapFields hd (·.setIfInBounds 1 (Value.ref h1.objs.size))
  have e3 := Heap.get?_update_self (Obj.mapFields (·.setIfInBounds 1 (Value.ref h1.objs.size))) e2 (Obj.isFreed_of_fields d3)
  have t3 : ((h1.push oT).update e (Obj.mapFields (·.setIfInBounds 1 (Value.ref h1.objs.size)))).get? h1.objs.size = some oT := (Heap.get?_update_other _ _ (Ne.symm hTe)).trans (Heap.get?_push_size h1 hTf)
  unfold setFlight
  refine wpAny_bind (wpAny_field e3 d3 (x := .ref h1.objs.size) (by simp [hsz]) ?_)
  rw [if_pos (show (Value.ref h1.objs.size != Value.none) = true from by simp)]
  refine wpAny_setField t3 hTd (by simp only [List.size_toArray, List.length_append, List.length_cons, List.length_nil] <;> omega) (h _ h1.objs.size ?_)
  have keep : ∀ b o, b ≠ e → h1.get? b = some o →
      (((h1.push oT).update e (Obj.mapFields (·.setIfInBounds 1 (Value.ref h1.objs.size)))).update h1.objs.size (Obj.mapFields (·.setIfInBounds 3 ((none : Option Addr).elim Value.none fun f => rawInt f)))).get? b = some o := fun b o hbe hb => by
    rw [Heap.get?_update_other _ _ (Nat.ne_of_gt (Heap.lt_size hb)), Heap.get?_update_other _ _ (Ne.symm hbe)]
    exact Heap.get?_push_of_some _ hb
  refine ⟨fun b o hb hbe _ ho => keep b o hbe ((s1.2.1 b hb).trans ho), fun b o hb hbe _ ho => ?_, ?_, ?_⟩
  · obtain ⟨sl, hs⟩ := s1.2.2 b o ho
    exact ⟨sl, keep b _ hbe hs⟩
  · cases q : s.heap.get? h1.objs.size with
    | none => rfl
    | some o =>
      have := Heap.lt_size q
      rw [s1.1] at this
      exact absurd this (Nat.lt_irrefl _)
  · refine ⟨_, _, _, _, (Heap.get?_update_other _ _ hTe).trans e3, Obj.cls_mapFields _ _, d3, by simp [hsz], hTe, Heap.get?_update_self _ t3 (Obj.isFreed_of_fields (Obj.data_mapFields hTd _)), Obj.data_mapFields hTd _, ?_⟩
    simp only [Array.getElem?_setIfInBounds, if_true]
    rw [if_pos (by simp only [List.size_toArray, List.length_append, List.length_cons, List.length_nil]; omega)]
    rfl
theorem leave_first {base : Heap} {env : Env} {outer : List Env} {L e : Addr} {oe : Obj} {vs : Array Value} {Q : Unit → Shared → Prop}
    (hfr : A.frames = some (env :: outer)) (hl : s.heap.FunFrames base (env :: outer)) (hf : env.frame = some L)
    (he : s.heap.get? e = some oe) (hd : oe.data = .fields vs) (h1 : vs[1]? = some .none)
    (h : ∀ h' T, Lft ((env :: outer).filterMap (·.frame)) e e T oe.cls s.heap h' → Q () { s with heap := h' }) : wpAny M A (leaving env (.ref e)) Q E s := by
  unfold leaving noteFrame
  simp only [hf]
  refine wpAny_bind (wpAny_bind (wpAny_field he hd h1 ?_))
  rw [if_neg (by decide)]
  exact entry_exact hfr hl hf he hd (Array.getElem?_eq_some_iff.mp h1).1 h
end
end L3

namespace L3
open PySem PySem.Spec PyProof.Rows L2
def CX1 (P : Program) (w : World) : CXT := fun outer H s E e s' => ∃ (a T C : Addr) (H' : Hp), e = .ref a ∧ s'.os = s.os ∧ AllBare s'.gens ∧ Un (frs outer) [] H H' s.heap s'.heap ∧ HOk P w H' s'.heap ∧
  Trc s'.heap a T (.ref C) ∧ H' a = none ∧ H' T = none ∧ s.heap.get? a = none ∧ s.heap.get? T = none ∧ E e (some C) H'
theorem ObjOk.at {P : Program} {w : World} {H : Hp} {h : Heap} {a : Addr} {o : HO} (x : ObjOk P w H h a o) : ∃ ob, h.get? a = some ob := by
  induction o with
  | lst xs => obtain ⟨z, its, n, r, e⟩ := x; exact ⟨_, e⟩
  | tup xs => obtain ⟨z, its, r, ob, e, c⟩ := x; exact ⟨_, e⟩
  | dK kvs => obtain ⟨z, y, vs, r, ob, es, ep, e, c⟩ := x; exact ⟨_, e⟩
  | dT kvs => obtain ⟨z, y, xs, r, ob, es, ep, e, c⟩ := x; exact ⟨_, e⟩
  | set S n => obtain ⟨ob, es, ep, t, e, c⟩ := x; exact ⟨_, e⟩
  | ins C dx fs => obtain ⟨d, z, ne, e, _⟩ := x; exact ⟨_, e⟩
  | own y => exact x
  | xd fs => obtain ⟨mA, ⟨od, es, ep, e, c⟩, r⟩ := x; exact ⟨_, e⟩
  | rng lo hi => obtain ⟨t, u, v, e⟩ := x; exact ⟨_, e⟩
  | frz ob u ih => exact ⟨_, x.1⟩
  | tbl ps => exact ⟨_, x⟩
  | met f y => exact ⟨_, x⟩
  | ext φ => exact x.2.1
theorem hok_left {P : Program} {w : World} {H : Hp} {h h' : Heap} {fr : List Addr} {e T0 T : Addr} {cls : Value} (x : HOk P w H h) (l : Lft fr e T0 T cls h h') (hfr : ∀ b ∈ fr, H b = none) (he : H e = none) (h0 : H T0 = none) : HOk P w H h' := fun b u q => by
  refine (x b u q).stay (fun c v hc r => ?_) (fun _ r => r) fun _ _ r => r
  have hn : H c ≠ none := by
    rcases hc with rfl | hc
    · rw [q]; exact fun z => nomatch z
    · rw [hc]; exact fun z => nomatch z
  exact l.keep c v (fun z => hn (hfr c z)) (fun z => hn (by rw [z]; exact he)) (fun z => hn (by rw [z]; exact h0)) r
section
variable {P : Program} {w : World} {K : PySem.W.Frag} {mg : Str → Option Value} {base : Heap} {N : List Str} {qual : Str} {scope : Scope} {f : Addr} {cd : Value} {A : Around} {outer : List Env} {s0 : Shared} {H0 : Hp} {E : XK}
  {pins : List (Addr × Obj)} {σ : L2.St} {H : Hp} {s : Shared}
theorem left_cx {h2 : Heap} {e T0 T C : Addr} (I : Inv (cxOf (CX1 P w) P w K mg base N qual scope f cd A outer s0 H0 E) pins σ H s) (l : Lft ((envOfC qual scope s0.heap.objs.size f cd :: outer).filterMap (·.frame)) e T0 T (.ref C) s.heap h2)
    (new : ∀ b o, s0.heap.get? b = some o → b ≠ e ∧ b ≠ T0) (he0 : H e = none) (ht0 : H T0 = none) (q : E (.ref e) (some C) H) : CX1 P w outer H0 s0 E (.ref e) { s with heap := h2 } := by
  have hfr : ∀ b ∈ (envOfC qual scope s0.heap.objs.size f cd :: outer).filterMap (·.frame), H b = none := I.stkFree
  have hU : Un (frs outer) [] H0 H s0.heap s.heap := I.base
  have newT : ∀ b o, s0.heap.get? b = some o → b ≠ T := fun b o hb z => by
    obtain ⟨o', h1⟩ := hU.there b o hb (by simp)
    have := l.new
    rw [← z, h1] at this; cases this
  have nin : ∀ b o, s0.heap.get? b = some o → b ∉ frs outer → b ∉ (envOfC qual scope s0.heap.objs.size f cd :: outer).filterMap (·.frame) := fun b o hb hn z => by
    rcases List.mem_cons.mp (show b ∈ s0.heap.objs.size :: frs outer from z) with z | z
    · exact Nat.ne_of_lt (Heap.lt_size hb) z
    · exact hn z
  have isin : ∀ b, b ∈ frs outer → b ∈ (envOfC qual scope s0.heap.objs.size f cd :: outer).filterMap (·.frame) := fun b hb => show b ∈ s0.heap.objs.size :: frs outer from List.mem_cons_of_mem _ hb
  refine ⟨e, T, C, H, rfl, I.os, I.bare, ⟨fun b o hb hn hf hx' => ?_, fun b o hb hn hf hx' => ?_, hU.free, fun b o hb hx' => ?_, hU.tups, hU.frzs, hU.tbls⟩, hok_left I.hok l hfr he0 ht0, l.trc, he0, ?_, ?_, ?_, q⟩
  · obtain ⟨n1, n2⟩ := new b o hb
    exact l.keep b o (nin b o hb hf) n1 n2 (hU.keep b o hb hn hf hx')
  · obtain ⟨n1, n2⟩ := new b o hb
    obtain ⟨sl, h1⟩ := hU.slot b o hb hn hf hx'
    obtain ⟨sl', h2⟩ := l.slot b _ (isin b hf) n1 n2 h1
    exact ⟨sl', h2⟩
  · obtain ⟨n1, n2⟩ := new b o hb
    obtain ⟨o', h1⟩ := hU.there b o hb hx'
    by_cases z : b ∈ (envOfC qual scope s0.heap.objs.size f cd :: outer).filterMap (·.frame)
    · obtain ⟨sl, h2⟩ := l.slot b o' z n1 n2 h1
      exact ⟨_, h2⟩
    · exact ⟨o', l.keep b o' z n1 n2 h1⟩
  · cases r : H T with
    | none => rfl
    | some o =>
      obtain ⟨ob, z⟩ := ObjOk.at (I.hok T o r)
      rw [l.new] at z; cases z
  · cases r : s0.heap.get? e with
    | none => rfl
    | some o => exact absurd rfl (new e o r).1
  · cases r : s0.heap.get? T with
    | none => rfl
    | some o => exact absurd rfl (newT T o r)
theorem xe_made {h' : Heap} {e C : Addr} {args : List Value} (I : Inv (cxOf (CX1 P w) P w K mg base N qual scope f cd A outer s0 H0 E) pins σ H s) (hx : Heap.MadeExcOf s.heap h' e (.ref C) args) (q : E (.ref e) (some C) H) :
    (cxOf (CX1 P w) P w K mg base N qual scope f cd A outer s0 H0 E).xe (.ref e) { s with heap := h' } := by
  obtain ⟨t, he, ht, _⟩ := hx.there
  have he0 : H e = none := by
    cases r : H e with
    | none => rfl
    | some o =>
      obtain ⟨ob, z⟩ := ObjOk.at (I.hok e o r)
      rw [hx.new] at z; cases z
  have I1 : Inv (cxOf (CX1 P w) P w K mg base N qual scope f cd A outer s0 H0 E) pins σ H { s with heap := h' } := I.kept (t' := s.toks) hx.keeps
  have new : ∀ b o, s0.heap.get? b = some o → b ≠ e := fun b o hb z => by
    have hU : Un (frs outer) [] H0 H s0.heap s.heap := I.base
    obtain ⟨o', ho'⟩ := hU.there b o hb (by simp)
    rw [z, hx.new] at ho'; cases ho'
  refine leave_first (base := base) (outer := outer) (L := s0.heap.objs.size) I.ok.frames I1.stack rfl he rfl rfl fun h2 T l => ?_
  exact left_cx I1 l (fun b o hb => ⟨new b o hb, new b o hb⟩) he0 he0 q
end
end L3

namespace L3
open PySem PySem.Spec PyProof.Rows L2
abbrev veM : List Value := [.type "ValueError", .type "Exception", .type "BaseException", .type "object"]
def ExcC (K : PySem.W.Frag) (mg : Str → Option Value) (x : Str) (C : Addr) : Prop := ∀ h : Heap, K.In h → OwnCls x C veM "ValueError.__new__" mg h
def Raises (X : Cx) (E : XK) : Prop := ∀ (pins : List (Addr × Obj)) (σ : L2.St) (H : Hp) (s : Shared) (h' : Heap) (e C : Addr) (args : List Value), Inv X pins σ H s → Heap.MadeExcOf s.heap h' e (.ref C) args → E (.ref e) (some C) H → X.xe (.ref e) { s with heap := h' }
def tRaise (C : Addr) (E : XK) (te : TE) : TS := fun _ σ H => te σ H fun _ H1 => ∀ e, E (.ref e) (some C) H1
section
variable {X : Cx} {x : Str} {C : Addr} {np cpos pos : Pos} {e₀ : Expr} {te : TE} {E : XK}
theorem ps_raise (hc : X.calm = true) (O : ExcC X.K X.mg x C) (hg : Gl X x) (hr : Raises X E) (he : PE X e₀ te) (hdb : (x == ("__debug__" : Str)) = false := by decide)
    (hst : starEach [e₀] X.env = [(false, eval e₀ X.env)] := by rfl) : PS X (.Raise (some (.Call (.Name x np) [e₀] [] cpos)) none pos) (tRaise C E te) := by
  intro pins s σ H D I h
  obtain ⟨tl, N, nm, q, bs, hdct, sn, sub, ab, col, dd, k0, k1, k2, k3, k5, mN, hC, hN, hni, T⟩ := (O X.base I.mod.kin).obj
  refine wpAny_Raise_call_subT (C := C) (nm := nm) (q := q) (N := N) (bs := bs) (bm := tl) (hdct := hdct) (sn := sn) (sub := sub) (ab := ab) (col := col) (dd := dd) (k0 := k0) (k1 := k1) (k2 := k2) (k3 := k3) (k5 := k5)
    PySem.F.excBase_ValueError (mN := mN) (T.hasType PySem.F.excBase_ValueError.hasBase) (I.ok.hd hc) (by rw [hst]; rfl) hni (ld_glob I hg (O s.heap I.kIn).bound ⟨rfl, ?_⟩ hdb)
  rw [hst]
  refine Calls.evalArgs_plain ?_
  show wpAny _ _ (spliced [(false, eval e₀ X.env)]) _ _ s
  refine Calls.spliced_cons (thn (he pins s σ H _ I h) fun v s1 ⟨y, H1, I1, r1, q1⟩ => Calls.spliced_nil ?_)
  exact ⟨rfl, szl rfl, I1.bk _ _ hC, hN.keeps I1.bk, T.keeps I1.bk, fun h' e hm => hr pins σ H1 s1 h' e C _ I1 hm (q1 e)⟩
end
section
variable {P : Program} {w : World} {K : PySem.W.Frag} {mg : Str → Option Value} {base : Heap} {N : List Str} {qual : Str} {scope : Scope} {f : Addr} {cd : Value} {A : Around} {outer : List Env} {s0 : Shared} {H0 : Hp} {E : XK}
theorem raises_cx : Raises (cxOf (CX1 P w) P w K mg base N qual scope f cd A outer s0 H0 E) E := fun _ _ _ _ _ _ _ _ I hx q => xe_made I hx q
end
end L3

namespace L3
open PySem PySem.Spec PyProof.Rows L2
section
variable {M : Model} {A : Around} {E : Value → Shared → Prop} {s : Shared}
theorem note_next {base : Heap} {env : Env} {outer : List Env} {L e T0 : Addr} {cls : Value} {Q : Unit → Shared → Prop}
    (hfr : A.frames = some (env :: outer)) (hl : s.heap.FunFrames base (env :: outer)) (hf : env.frame = some L) (ht : Trc s.heap e T0 cls)
    (h : ∀ h' T, Lft ((env :: outer).filterMap (·.frame)) e T0 T cls s.heap h' → Q () { s with heap := h' }) : wpAny M A (noteFrame (.ref e) env) (fun _ s' => wpAny M A (setFlight (.ref e) none) Q E s') E s := by
  obtain ⟨oe, vs, oT, ts, he, hcls, hd, h1, hTe, hT, hdT, h3⟩ := ht
  subst hcls
  unfold noteFrame
  simp only [hf]
  refine wpAny_bind (wpAny_field he hd h1 ?_)
  rw [if_pos (show (Value.ref T0 != Value.none) = true from by simp)]
  refine wpAny_bind (wpAny_field hT hdT h3 ?_)
  rw [if_neg (show ¬ ((Value.none == rawInt L) = true) from by simp [rawInt])]
  refine wpAny_bind (wpAny_setField hT hdT (Array.getElem?_eq_some_iff.mp h3).1 ?_)
  have other : ∀ b, b ≠ T0 → (s.heap.update T0 (Obj.mapFields (·.setIfInBounds 3 Value.none))).get? b = s.heap.get? b := fun b hb => Heap.get?_update_other _ _ (Ne.symm hb)
  have nf : ∀ b o, s.heap.get? b = some o → (∀ vs, o.data ≠ .fields vs) → b ≠ T0 := fun b o hb hnf q => by
    rw [q, hT] at hb
    cases hb
    exact hnf ts hdT
  refine entry_exact hfr (hl.of_keeps fun b o hb hnf => ⟨o, (other b (nf b o hb hnf)).trans hb, rfl⟩) hf ((other e (Ne.symm hTe)).trans he) hd (Array.getElem?_eq_some_iff.mp h1).1 fun h' T x => h h' T ?_
  refine ⟨fun b o hb hbe hb0 ho => x.keep b o hb hbe hbe ((other b hb0).trans ho), fun b o hb hbe hb0 ho => x.slot b o hb hbe hbe ((other b hb0).trans ho), ?_, x.trc⟩
  have := x.new
  by_cases q : T = T0
  · subst q
    have e5 := Heap.get?_update_self (Obj.mapFields (·.setIfInBounds 3 Value.none)) hT (Obj.isFreed_of_fields (Obj.data_mapFields hdT _))
    rw [show (s.heap.update T (Obj.mapFields (·.setIfInBounds 3 Value.none))).get? T = _ from e5] at this
    cases this
  · rw [← other T q]; exact this
theorem flight_end {e T0 : Addr} {cls : Value} {Q : Unit → Shared → Prop} (ht : Trc s.heap e T0 cls)
    (h : ∀ h', (∀ b, b ≠ T0 → h'.get? b = s.heap.get? b) → Trc h' e T0 cls → Q () { s with heap := h' }) : wpAny M A (setFlight (.ref e) none) Q E s := by
  obtain ⟨oe, vs, oT, ts, he, hcls, hd, h1, hTe, hT, hdT, h3⟩ := ht
  unfold setFlight
  refine wpAny_bind (wpAny_field he hd h1 ?_)
  rw [if_pos (show (Value.ref T0 != Value.none) = true from by simp)]
  have other : ∀ b, b ≠ T0 → (s.heap.update T0 (Obj.mapFields (·.setIfInBounds 3 ((none : Option Addr).elim Value.none fun f => rawInt f)))).get? b = s.heap.get? b := fun b hb => Heap.get?_update_other _ _ (Ne.symm hb)
  refine wpAny_setField hT hdT (Array.getElem?_eq_some_iff.mp h3).1 (h _ other ⟨oe, vs, _, _, (other e (Ne.symm hTe)).trans he, hcls, hd, h1, hTe, Heap.get?_update_self _ hT (Obj.isFreed_of_fields (Obj.data_mapFields hdT _)), Obj.data_mapFields hdT _, ?_⟩)
  simp only [Array.getElem?_setIfInBounds, if_true]
  rw [if_pos (Array.getElem?_eq_some_iff.mp h3).1]
  rfl
end
structure ApX (X : Cx) (pins : List (Addr × Obj)) (H : Hp) (a T : Addr) : Prop where
  s0 : ∀ b o, X.s₀.heap.get? b = some o → b ≠ a ∧ b ≠ T
  loc : X.env.locals ≠ a ∧ X.env.locals ≠ T
  cel : ∀ x c, X.env.cells.lookup x = some c → c ≠ a ∧ c ≠ T
  pin : ∀ p ∈ X.pn ++ pins, p.1 ≠ a ∧ p.1 ≠ T
  ha : H a = none
  hT : H T = none
theorem ApX.of {X : Cx} {pins : List (Addr × Obj)} {σ : L2.St} {H H' : Hp} {s : Shared} {a T : Addr} (I : Inv X pins σ H s) (hx : X.ex = []) (na : s.heap.get? a = none) (nT : s.heap.get? T = none) (ha : H' a = none) (hT : H' T = none) : ApX X pins H' a T := by
  have ne : ∀ b o, s.heap.get? b = some o → b ≠ a ∧ b ≠ T := fun b o hb => ⟨fun z => (by rw [z, na] at hb; cases hb), fun z => (by rw [z, nT] at hb; cases hb)⟩
  refine ⟨fun b o hb => ?_, ?_, fun x c hc => ?_, fun p hp => ne _ _ (I.pin p hp).1, ha, hT⟩
  · obtain ⟨o', h1⟩ := I.base.there b o hb (by rw [hx]; simp)
    exact ne b o' h1
  · obtain ⟨m, ⟨o, es, ep, ho, _⟩, _⟩ := I.loc
    exact ne _ _ ho
  · obtain ⟨v, hv⟩ := I.cell x c hc
    obtain ⟨o, ho, _⟩ := hv
    exact ne _ _ ho
end L3

namespace L3
open PySem PySem.Spec PyProof.Rows L2
theorem Inv.leftK {X : Cx} {pins : List (Addr × Obj)} {σ : L2.St} {H : Hp} {s : Shared} {a T0 : Addr} {h2 : Heap} (I : Inv X pins σ H s) (hx : X.ex = []) (ap : ApX X pins H a T0)
    (lk : ∀ b o, b ∉ frs X.stack → b ≠ a → b ≠ T0 → s.heap.get? b = some o → h2.get? b = some o) (ls : ∀ b o, b ∈ frs X.stack → b ≠ a → b ≠ T0 → s.heap.get? b = some o → ∃ sl, h2.get? b = some { o with slots := sl }) : Inv X pins σ H { s with heap := h2 } := by
  have stk : ∀ b, b ∈ frs X.stack → b = X.env.locals ∨ b ∈ X.fs := fun b hb => List.mem_cons.mp (I.stkSub b hb)
  have any : ∀ b o, b ≠ a → b ≠ T0 → s.heap.get? b = some o → ∃ sl, h2.get? b = some { o with slots := sl } := fun b o n1 n2 ho => by
    by_cases z : b ∈ frs X.stack
    · exact ls b o z n1 n2 ho
    · exact ⟨o.slots, lk b o z n1 n2 ho⟩
  have cellK : ∀ x c, X.env.cells.lookup x = some c → ∀ v, s.heap.IsCell c v → h2.IsCell c v := fun x c e v ⟨o, ho, hd⟩ => by
    obtain ⟨n1, n2⟩ := ap.cel x c e
    obtain ⟨sl, h1⟩ := any c o n1 n2 ho
    exact ⟨_, h1, hd⟩
  refine ⟨I.ok, I.os, I.bare, ⟨fun b o hb hn hf hx' => ?_, fun b o hb hn hf hx' => ?_, I.base.free, fun b o hb hx' => ?_, I.base.tups, I.base.frzs, I.base.tbls⟩, ?_, fun x c hc => ?_, I.free, I.freeC, fun p hp => ?_, fun b u q => ?_, I.len⟩
  · obtain ⟨n1, n2⟩ := ap.s0 b o hb
    refine lk b o (fun z => ?_) n1 n2 (I.base.keep b o hb hn hf hx')
    rcases stk b z with z | z
    · exact absurd (Nat.lt_of_lt_of_le (Heap.lt_size hb) I.ok.above) (by rw [z]; exact Nat.lt_irrefl _)
    · exact hf z
  · obtain ⟨n1, n2⟩ := ap.s0 b o hb
    obtain ⟨sl, h1⟩ := I.base.slot b o hb hn hf hx'
    obtain ⟨sl', h3⟩ := any b _ n1 n2 h1
    exact ⟨sl', h3⟩
  · obtain ⟨n1, n2⟩ := ap.s0 b o hb
    obtain ⟨o', h1⟩ := I.base.there b o hb hx'
    obtain ⟨sl, h3⟩ := any b o' n1 n2 h1
    exact ⟨_, h3⟩
  · obtain ⟨m, ⟨o, es, ep, ho, r⟩, hl⟩ := I.loc
    obtain ⟨sl, h1⟩ := any _ o ap.loc.1 ap.loc.2 ho
    refine ⟨m, ⟨_, es, ep, h1, r⟩, fun i x v e1 e2 e3 => ?_⟩
    obtain ⟨u, ru, lk⟩ := hl i x v e1 e2 e3
    refine ⟨u, ru, ?_⟩
    rcases lk with lk | ⟨k1, c, k2, k3⟩
    · exact .inl lk
    · exact .inr ⟨k1, c, k2, cellK x c k2 _ k3⟩
  · obtain ⟨v, hv⟩ := I.cell x c hc
    exact ⟨v, cellK x c hc v hv⟩
  · obtain ⟨p1, p2, p3, p4, p5⟩ := I.pin p hp
    obtain ⟨n1, n2⟩ := ap.pin p hp
    refine ⟨lk _ _ (fun z => ?_) n1 n2 p1, p2, p3, p4, p5⟩
    rcases stk _ z with z | z
    · exact p3 z
    · exact p4 z
  · refine (I.hok b u q).stay (fun c v hc r => ?_) (fun _ r => r) fun _ _ r => r
    have hn : H c ≠ none := by
      rcases hc with rfl | hc
      · rw [q]; exact fun z => nomatch z
      · rw [hc]; exact fun z => nomatch z
    exact lk c v (fun z => hn (I.stkFree c z)) (fun z => hn (by rw [z]; exact ap.ha)) (fun z => hn (by rw [z]; exact ap.hT)) r
theorem Inv.left {X : Cx} {pins : List (Addr × Obj)} {σ : L2.St} {H : Hp} {s : Shared} {a T0 T : Addr} {cls : Value} {h2 : Heap} (I : Inv X pins σ H s) (hx : X.ex = []) (ap : ApX X pins H a T0)
    (l : Lft (frs X.stack) a T0 T cls s.heap h2) : Inv X pins σ H { s with heap := h2 } := Inv.leftK I hx ap l.keep l.slot
end L3

namespace L3
open PySem PySem.Spec PyProof.Rows L2
abbrev pinX (X : Cx) (ps : List (Addr × Obj)) (E : Value → Shared → Prop) : Cx := { X with pn := X.pn ++ ps, xe := E }
def CaughtX (X : Cx) (ps : List (Addr × Obj)) (E : XK) : Value → Shared → Prop := fun e s' => ∃ (a T C : Addr) (σ : L2.St) (H : Hp), e = .ref a ∧ Inv X ps σ H s' ∧ Trc s'.heap a T (.ref C) ∧ ApX X ps H a T ∧ E e (some C) H
section
variable {X : Cx} {ps pins : List (Addr × Obj)} {E : Value → Shared → Prop} {σ : L2.St} {H : Hp} {s : Shared}
theorem Inv.pinX (I : Inv X ps σ H s) : Inv (pinX X ps E) [] σ H s :=
  ⟨⟨I.ok.mod, I.ok.kind, I.ok.glob, I.ok.blt, I.ok.above, I.ok.inj, I.ok.has, I.ok.cab, I.ok.hd, I.ok.frames, I.ok.stk, I.ok.exf, I.ok.bs, I.ok.bsz, I.ok.noex, I.ok.exfs, I.ok.funs, I.ok.frf⟩, I.os, I.bare, I.base, I.loc, I.cell, I.free, I.freeC, fun p hp => I.pin p (by simpa using hp), I.hok, I.len⟩
theorem Inv.unpin (I : Inv (L3.pinX X ps E) pins σ H s) : Inv X ps σ H s :=
  ⟨⟨I.ok.mod, I.ok.kind, I.ok.glob, I.ok.blt, I.ok.above, I.ok.inj, I.ok.has, I.ok.cab, I.ok.hd, I.ok.frames, I.ok.stk, I.ok.exf, I.ok.bs, I.ok.bsz, I.ok.noex, I.ok.exfs, I.ok.funs, I.ok.frf⟩, I.os, I.bare, I.base, I.loc, I.cell, I.free, I.freeC, fun p hp => I.pin p (List.mem_append_left _ hp), I.hok, I.len⟩
end
theorem pass_try {X : Cx} {ps : List (Addr × Obj)} {E : XK} (hx : X.ex = []) : Passes (CX1 X.prog X.w) (pinX X ps (CaughtX X ps E)) E := by
  intro pins σ H s ex s' I hc
  obtain ⟨a, T0, C, H', rfl, os, bare, un, hok, trc, e0, t0, ne, nt, q⟩ := hc
  have I0 : Inv X ps σ H s := Inv.unpin I
  have I1 : Inv X ps σ H' s' := I0.call' (ch := []) os un hok bare (fun b z => absurd z (by simp))
  exact ⟨a, T0, C, σ, H', rfl, I1, trc, ApX.of I0 hx ne nt e0 t0, q⟩
end L3

namespace L3
open PySem PySem.Spec PyProof.Rows L2
abbrev handX (X : Cx) (e : Addr) : Cx := { X with A := X.A.mark (some (.ref e)), calm := false, xe := fun _ _ => False }
section
variable {X : Cx} {pins : List (Addr × Obj)} {σ : L2.St} {H : Hp} {s : Shared} {e : Addr}
theorem Inv.handX (I : Inv X pins σ H s) : Inv (handX X e) pins σ H s :=
  ⟨⟨I.ok.mod, I.ok.kind, I.ok.glob, I.ok.blt, I.ok.above, I.ok.inj, I.ok.has, I.ok.cab, fun z => (nomatch z), I.ok.frames, I.ok.stk, I.ok.exf, I.ok.bs, I.ok.bsz, I.ok.noex, I.ok.exfs, I.ok.funs, I.ok.frf⟩, I.os, I.bare, I.base, I.loc, I.cell, I.free, I.freeC, I.pin, I.hok, I.len⟩
theorem Inv.unhand (ok : X.Ok) (I : Inv (L3.handX X e) pins σ H s) : Inv X pins σ H s := ⟨ok, I.os, I.bare, I.base, I.loc, I.cell, I.free, I.freeC, I.pin, I.hok, I.len⟩
theorem SP.unhand (ok : X.Ok) {D : Ends} {f : Flow} (h : SP (L3.handX X e) pins D f s) : SP X pins D f s := by
  cases f with
  | next => obtain ⟨σ', H', I, q⟩ := h; exact ⟨σ', H', Inv.unhand ok I, q⟩
  | brk => obtain ⟨σ', H', I, q⟩ := h; exact ⟨σ', H', Inv.unhand ok I, q⟩
  | cont => obtain ⟨σ', H', I, q⟩ := h; exact ⟨σ', H', Inv.unhand ok I, q⟩
  | ret u => obtain ⟨v, σ', H', I, r, q⟩ := h; exact ⟨v, σ', H', Inv.unhand ok I, r, q⟩
theorem SP.unpin {ps : List (Addr × Obj)} {E : Value → Shared → Prop} {D : Ends} {f : Flow} (h : SP (L3.pinX X ps E) [] D f s) : SP X ps D f s := by
  cases f with
  | next => obtain ⟨σ', H', I, q⟩ := h; exact ⟨σ', H', Inv.unpin I, q⟩
  | brk => obtain ⟨σ', H', I, q⟩ := h; exact ⟨σ', H', Inv.unpin I, q⟩
  | cont => obtain ⟨σ', H', I, q⟩ := h; exact ⟨σ', H', Inv.unpin I, q⟩
  | ret u => obtain ⟨v, σ', H', I, r, q⟩ := h; exact ⟨v, σ', H', Inv.unpin I, r, q⟩
end
section
variable {X : Cx} {x : Str} {C : Addr} {np hpos pos : Pos} {body suite : List Stmt} {b₀ : Stmt} {tb th : TS} {E : XK}
end
end L3

namespace L3
open PySem PySem.Spec PyProof.Rows L2
open PySem.W in
/-- an exception class as the text's constants show it -/
theorem excC_of {K : PySem.W.Frag} {mg : Str → Option Value} {x : Str} {C : Addr} (b : mg x = some (.ref C)) (q : PySem.W.excIn K C veM "ValueError.__new__" = true) : ExcC K mg x C := by
  intro h X
  refine ⟨b, ?_⟩
  unfold PySem.W.excIn at q
  cases ho : K.lookup C with
  | none => rw [ho] at q; cases q
  | some ob =>
    rw [ho] at q
    obtain ⟨oc, od, oda, osl⟩ := ob
    split at q
    · rename_i dd cd sl e
      obtain ⟨rfl, rfl, rfl, rfl⟩ := Obj.mk.inj (Option.some.inj e)
      split at q
      · rename_i C' bm k0 k1 k2 k3 n k5 hm hs
        simp only [Bool.and_eq_true, beq_iff_eq, Bool.not_eq_true'] at q
        obtain ⟨⟨⟨⟨⟨rfl, rfl⟩, hdel⟩, ht⟩, hok⟩, hni⟩ := q
        obtain ⟨nm, bs, mro, ns, qn, hd, sn, sub, ab, col, del⟩ := cd
        dsimp only at hm hdel hok hni
        subst hm hdel
        obtain ⟨l⟩ := osl
        have hl : l = [k0, k1, k2, k3, some (.builtin "ValueError.__new__"), k5] := hs
        subst hl
        exact ⟨bm, ns, nm, qn, bs, hd, sn, sub, ab, col, od, k0, k1, k2, k3, k5, _, X _ _ ho, .of_isNs (PySem.W.isNs_of_in X hok), PySem.W.nsMap_none_of_in X hok hni, PySem.W.tail_of_in X ht⟩
      · cases q
    · cases q
end L3

namespace L3
open PySem PySem.Spec PyProof.Rows L2
section
variable {P : Program} {w : World} {K : PySem.W.Frag} {mg : Str → Option Value} {base : Heap}
theorem Fun.okX {x qual : Str} {st : Stmt} {f : Addr} {fd : FuncData} {N ps : List Str} {k : Nat} {sp : Sp} (F : Fun K x qual st f fd) (S : FnScope N ps (defScope st)) (len : ∀ vs H Q E, sp vs H Q E → vs.length = ps.length)
    (hbody : ∀ (cdv : Value) (A : Around) (outer : List Env) (s : Shared) (H : Hp) (vs : List V) (Q : VK) (E : XK), Room k (A.deeper (envOfC qual (defScope st) s.heap.objs.size f cdv)) → sp vs H Q E →
      ∃ t, PSs (cxOf (CX1 P w) P w K mg base N qual (defScope st) f cdv A outer s H E) (defBody st) t ∧ t { nx := fun _ H' => Q .non H', rt := Q } (start N vs) H) : FnOk P w K mg base (CX1 P w) (k + 1) f fd ps sp := by
  obtain ⟨oc, od, kV, doc, pm, an, cdv, ct, osl, rfl, lk, hcd⟩ := F.ex
  exact fn_of lk hcd S len fun A outer s H vs Q E hr hsp => hbody cdv A outer s H vs Q E hr hsp
end
def MCalleeX (P : Program) (w : World) (K : PySem.W.Frag) (mg : Str → Option Value) (base : Heap) (C : Addr) (k : Nat) (m : Str) (ps : List Str) (sp : Sp) : Prop :=
  ∃ (f : Addr) (fd : FuncData), FnOk P w K mg base (CX1 P w) k f fd ps sp ∧ Binds K fd ps [] ∧ Meth K C m f
def CalleeX (P : Program) (w : World) (K : PySem.W.Frag) (mg : Str → Option Value) (base : Heap) (k : Nat) (x : Str) (ps : List Str) (sp : Sp) : Prop :=
  ∃ (f : Addr) (fd : FuncData), FnOk P w K mg base (CX1 P w) k f fd ps sp ∧ Binds K fd ps [] ∧ PySem.W.keepIn K (.ref f) = true ∧ mg x = some (.ref f)
section
variable {P : Program} {w : World} {K : PySem.W.Frag} {mg : Str → Option Value} {base : Heap} {C : Addr} {j k : Nat} {m x : Str} {ps : List Str} {sp : Sp}
theorem MCalleeX.mono (c : MCalleeX P w K mg base C j m ps sp) (h : j ≤ k) : MCalleeX P w K mg base C k m ps sp := by
  obtain ⟨f, fd, F, b, mt⟩ := c
  exact ⟨f, fd, F.mono h, b, mt⟩
theorem CalleeX.mono (c : CalleeX P w K mg base j x ps sp) (h : j ≤ k) : CalleeX P w K mg base k x ps sp := by
  obtain ⟨f, fd, F, b, mt⟩ := c
  exact ⟨f, fd, F.mono h, b, mt⟩
end
section
variable {X : Cx} {C : Addr} {k : Nat} {m x : Str} {ps : List Str} {sp : Sp} {o e : Expr} {es : List Expr} {ta : TE} {t : TA} {apos pos p : Pos} {E : XK}
theorem pe_methX {pl : Sem Bool} (c : MCalleeX X.prog X.w X.K X.mg X.base C k m ps sp) (hx : Passes (CX1 X.prog X.w) X E) (cl : Cls X.K C) (hr : Room k X.A) (he : PE X o ta) (ha : PA X (e :: es) t)
    (hst : starEach (e :: es) X.env = (false, eval e X.env) :: starEach es X.env := by rfl) (hpl : (backTo pos (starEach es X.env)).any (·.1) = false := by rfl)
    (ht : eval (.Call (.Attribute o m apos) (e :: es) [] pos) X.env = (do
      let ov ← eval o X.env
      standAt apos.atName
      let (f, first) ← holding [ov] (getMethod ov m pl)
      callWith pos f first (backTo pos (starEach (e :: es) X.env)) (backToKw pos (keywordEach [] X.env))) := by rfl) :
    PE X (.Call (.Attribute o m apos) (e :: es) [] pos) (tMeth C m sp [] E ta t) := by
  obtain ⟨f, fd, F, b, mt⟩ := c
  exact pe_meth he cl mt F hr b .nil hx ha hst hpl ht
end
end L3

namespace L3
open PySem PySem.Spec PyProof.Rows L2 PySem.W
open PySem.Builtin PySem.Builtin.ObjectAttr PySem.Builtin.Getset_descriptor in
theorem exc_class_get {prog : Program} {w : World} {A : Around} {s : Shared} {K : PySem.W.Frag} {a C : Addr} {o : Obj} {R : Result → Shared → Prop} {tp : Value} (X : K.In s.heap) (hx : s.heap.get? a = some o) (hc : o.cls = .ref C) (hm : PySem.W.mroIn K C (.type "object") = some true)
    (h : R (.ok (.ret (.ref C))) s) : codeAny (model prog w) A (.call (.builtin "getset_descriptor.__get__") ⟨[.builtin "object.__class__", .ref a, tp], []⟩) R s := by
  obtain ⟨hh, g, dr, t, os⟩ := s
  have L0 : Looks (model prog w) hh (typeOf (.ref a)) (.ref C) := hc ▸ (Looks.ld hx).andThen .now
  have L1 := looks_mroIn (M := model prog w) X hm
  refine codeAny_call_builtin KF.slot_gs.plain KF.entry_gs (KF.slot_gs.check _ _ _ _ _ _ _ _ KF.type_class (KF.args_gs _ _ _) ?_)
  unfold Builtin.«getset_descriptor.__get__» descrGet
  rw [dga_obj]
  refine wpAny_bind (wpAny_pure ?_)
  unfold descrGetter descrCheckInstance descrNameAndClass isInstance
  simp only [KF.owner_class]
  repeat lk
  refine ⟨Code.quiet_builtin _ (by decide +kernel), codeAny_builtin KF.entry_class ?_⟩
  unfold Builtin.«object.__class__» shownTypeOf
  repeat lk
  exact h
section
variable {prog : Program} {w : World} {A : Around} {E : Value → Shared → Prop} {K : PySem.W.Frag} {a C : Addr} {o : Obj} {h : Heap} {g : Array GenState} {d : Drawn} {t : Nat} {os : OsState}
theorem exc_class_entry {tk : Tok} {Q : PySem.Fin → Shared → Prop} (X : K.In h) (hx : h.get? a = some o) (hc : o.cls = .ref C) (ha : findIn K (.ref C) "__class__" = some (some (.builtin "object.__class__"))) (hm : PySem.W.mroIn K C (.type "object") = some true)
    (hq : Q (.done (.ret (.ref C))) ⟨h, g, d, t, os⟩) : wpAny (model prog w) A (Builtin.«object.__getattribute__» ⟨[.ref a, .str "__class__" tk], []⟩) Q E ⟨h, g, d, t, os⟩ := by
  have L0 : Looks (model prog w) h (typeOf (.ref a)) (.ref C) := hc ▸ (Looks.ld hx).andThen .now
  have L1 := looks_findIn (M := model prog w) X ha
  have f5 := PySem.F.typeOf_object_class
  have f6 := PySem.F.slot_gs_get.lookup
  have f7 := PySem.F.slot_gs_set.lookup
  repeat (any_goals (first | assumption | with_reducible refine L0.at ?_ | with_reducible refine L1.at ?_ | (with_reducible refine wpAny_loadPart_at hx ?_; rw [hc]) | wp_step))
  refine exc_class_get X hx hc hm ?_
  repeat (any_goals (first | assumption | wp_step))
theorem exc_check_ga {M : Model} {nameV : Value} {Q : Unit → Shared → Prop} (X : K.In h) (hx : h.get? a = some o) (hc : o.cls = .ref C) (hb : PySem.W.mroIn K C (.type "BaseException") = some true) (hq : Q () ⟨h, g, d, t, os⟩) :
    wpAny M A (checkBuiltinCall "BaseException.__getattribute__" ⟨[.ref a, nameV], []⟩) Q E ⟨h, g, d, t, os⟩ := by
  have hk : builtinKind "BaseException.__getattribute__" = some .slot := by decide +kernel
  have hsplit : splitId "BaseException.__getattribute__" = some ("BaseException", "__getattribute__") := by decide +kernel
  have L0 : Looks M h (typeOf (.ref a)) (.ref C) := hc ▸ (Looks.ld hx).andThen .now
  have L1 := looks_mroIn (M := M) X hb
  have ha := PySem.F.args_bexc_ga (.ref a) nameV
  simp only [checkBuiltinCall, hk, hsplit]
  refine wpAny_bind ?_
  unfold isInstance
  repeat (first | with_reducible refine L0.at ?_ | with_reducible refine L1.at ?_ | wp_step)
  exact hq
theorem exc_class_call {tk : Tok} {R : Result → Shared → Prop} (X : K.In h) (hx : h.get? a = some o) (hc : o.cls = .ref C) (ha : findIn K (.ref C) "__class__" = some (some (.builtin "object.__class__"))) (hm : PySem.W.mroIn K C (.type "object") = some true) (hb : PySem.W.mroIn K C (.type "BaseException") = some true)
    (hq : R (.ok (.ret (.ref C))) ⟨h, g, d, t, os⟩) : codeAny (model prog w) A (.call (.builtin "BaseException.__getattribute__") ⟨[.ref a, .str "__class__" tk], []⟩) R ⟨h, g, d, t, os⟩ :=
  codeAny_call_builtin (by decide +kernel) PySem.F.entry_bexc_ga (exc_check_ga X hx hc hb (exc_class_entry X hx hc ha hm hq))
theorem exc_class_by {tk : Tok} {Q : Value → Shared → Prop} (X : K.In h) (hx : h.get? a = some o) (hc : o.cls = .ref C) (hga : findIn K (.ref C) "__getattribute__" = some (some (.builtin "BaseException.__getattribute__"))) (hgt : findIn K (.ref C) "__getattr__" = some none)
    (ha : findIn K (.ref C) "__class__" = some (some (.builtin "object.__class__"))) (hm : PySem.W.mroIn K C (.type "object") = some true) (hb : PySem.W.mroIn K C (.type "BaseException") = some true)
    (hq : Q (.ref C) ⟨h, g, d, t, os⟩) : wpAny (model prog w) A (getAttrBy (.ref a) (.str "__class__" tk) false) Q E ⟨h, g, d, t, os⟩ := by
  have L0 : Looks (model prog w) h (typeOf (.ref a)) (.ref C) := hc ▸ (Looks.ld hx).andThen .now
  have L1 := looks_findIn (M := model prog w) X hga
  have L2 := looks_findIn (M := model prog w) X hgt
  have f3 := PySem.F.attr_ValueError.ga.bind (.ref a)
  have hx2 : (Value.builtin "BaseException.__getattribute__" == Value.builtin "object.__getattribute__") = false := by decide +kernel
  have hx1 : (onTheHeap (Value.ref C) && Value.builtin "BaseException.__getattribute__" == Value.builtin "object.__getattribute__") = false := by rw [hx2]; rfl
  repeat (any_goals (first | assumption | with_reducible refine L0.at ?_ | with_reducible refine L1.at ?_ | with_reducible refine L2.at ?_ | (with_reducible refine wpAny_loadPart_at hx ?_; rw [hc]) | wp_step))
  refine exc_class_call X hx hc ha hm hb ?_
  repeat (any_goals (first | assumption | wp_step))
theorem exc_class_attr {Q : Option Value → Shared → Prop} (X : K.In h) (hx : h.get? a = some o) (hc : o.cls = .ref C) (hga : findIn K (.ref C) "__getattribute__" = some (some (.builtin "BaseException.__getattribute__"))) (hgt : findIn K (.ref C) "__getattr__" = some none)
    (ha : findIn K (.ref C) "__class__" = some (some (.builtin "object.__class__"))) (hm : PySem.W.mroIn K C (.type "object") = some true) (hb : PySem.W.mroIn K C (.type "BaseException") = some true)
    (hq : Q (some (.ref C)) ⟨h, g, d, t + 1, os⟩) : wpAny (model prog w) A (getAttr? (.ref a) "__class__") Q E ⟨h, g, d, t, os⟩ := by
  unfold getAttr? getAttrBy?
  repeat (any_goals (first | assumption | with_reducible apply exc_class_by X hx hc hga hgt ha hm hb | wp_step))
end
end L3

namespace L3
open PySem PySem.Spec PyProof.Rows L2 PySem.W
structure ExcK (K : PySem.W.Frag) (C : Addr) : Prop where
  ga : findIn K (.ref C) "__getattribute__" = some (some (.builtin "BaseException.__getattribute__"))
  gt : findIn K (.ref C) "__getattr__" = some none
  cl : findIn K (.ref C) "__class__" = some (some (.builtin "object.__class__"))
  ob : mroIn K C (.type "object") = some true
  be : mroIn K C (.type "BaseException") = some true
theorem mro_cls {K : PySem.W.Frag} {C : Addr} {b : Value} {r : Bool} (e : mroIn K C b = some r) : ∃ cd, clsIn K C = some cd := by
  obtain ⟨cd, a, _⟩ := Option.bind_eq_some_iff.mp e
  exact ⟨cd, a⟩
theorem kitx_exc {K : PySem.W.Frag} {a C : Addr} (F : ExcK K C) : KitX K (.ref a) (.ref C) (fun h => ∃ o, h.get? a = some o ∧ o.cls = .ref C) where
  ty := fun M h _ p => by
    obtain ⟨o, h1, h2⟩ := p
    exact h2 ▸ (Looks.ld h1).andThen .now
  it := fun _ _ X _ => by
    obtain ⟨cdD, hcD⟩ := mro_cls F.ob
    unfold clsIn at hcD
    split at hcD
    · rename_i c' d' cd' sl' ho
      intro A' Q' E' s' k q
      unfold isType loadHead
      exact wpAny_bind (wpAny_loadPart (k _ _ (X _ _ ho)) (wpAny_pure q))
    · cases hcD
  ne := fun h tp dd its n sl X htp => by
    obtain ⟨cdD, hcD⟩ := mro_cls F.ob
    refine Bool.eq_false_iff.mpr fun q => ?_
    have e : C = tp := Value.ref.inj (beq_iff_eq.mp q)
    subst e
    unfold clsIn at hcD
    split at hcD
    · rename_i c' d' cd' sl' ho
      have z := (X _ _ ho).symm.trans htp
      cases z
    · cases hcD
  ca := fun {_ _ _ _ _ s} X p k => by
    obtain ⟨h, g, d, t, os⟩ := s
    obtain ⟨o, h1, h2⟩ := p
    exact exc_class_attr X h1 h2 F.ga F.gt F.cl F.ob F.be k
def ExO (a C : Addr) : HO := .ext fun h => ∃ o, h.get? a = some o ∧ o.cls = .ref C
def rIsiE (K : PySem.W.Frag) : List V → Hp → VK → Prop := fun xs H Q => ∃ (a C : Addr) (y : V) (c : Value) (b : Bool), xs = [.ref a, y] ∧ H a = some (ExO a C) ∧ (∀ u, RelV y u → u = c) ∧ ExcK K C ∧ kitOne K (.ref C) c = some b ∧ Q (.bl b) H
theorem call_isiE {X : Cx} {K : PySem.W.Frag} (hK : X.K = K) : CallR X (.builtin "isinstance") (rIsiE K) := by
  subst hK
  intro pins s σ H xs us Q I r h
  obtain ⟨a, C, y, c, b, rfl, hH, hy, F, e, q⟩ := h
  obtain ⟨u, w', rfl, rx, ry⟩ := vals2 r
  cases (show u = Value.ref a from rx)
  have := hy w' ry
  subst this
  exact kia_one (kitx_exc F) I.kIn (I.hok a _ hH).1 e (fun z => nomatch z) fun tk => ⟨.bl b, H, I.tok _, rfl, q⟩
theorem excMatches_up {M : Model} {A : Around} {E : Value → Shared → Prop} {K : PySem.W.Frag} {h : Heap} {g : Array GenState} {d : Drawn} {t : Nat} {os : OsState} {e C' C N : Addr} {oe : Obj} {Q : Bool → Shared → Prop} {nm q : Str} {bs bm : List Value} {hdct : Bool} {sn : List Str} {sub : List Value} {ab : Bool} {col : Option Bool} {dd : Option Addr} {k0 k1 k2 k3 k5 : Option Value} {newId : String}
    (X : K.In h) (hC : h.get? C = some (excClassObj nm q C N bs bm hdct sn sub ab col dd k0 k1 k2 k3 k5 newId)) (he : h.get? e = some oe) (hcls : oe.cls = .ref C') (hbase : bm.contains (.type "BaseException") = true) (hup : mroIn K C' (.ref C) = some true)
    (hq : Q true ⟨h, g, d, t, os⟩) : wpAny M A (excMatches (.ref e) (.ref C)) Q E ⟨h, g, d, t, os⟩ := by
  have hcB : (Value.ref C :: bm).contains (.type "BaseException") = true := by rw [List.contains_cons, hbase, Bool.or_true]
  have L1 := looks_mroIn (M := M) X hup
  have f := tc_notTuple
  unfold excMatches
  repeat (first | (with_reducible refine wpAny_loadPart_at he ?_; rw [hcls]) | with_reducible refine L1.at ?_ | with_reducible refine wpAny_loadPart_at hC ?_ | (with_reducible refine wpAny_isSubtype_exc hC ?_; rw [hcB]) | wp_step)
  exact hq
end L3

namespace L3
open PySem PySem.Spec PyProof.Rows L2 PySem.W
section
variable {X : Cx} {pins : List (Addr × Obj)} {σ : L2.St} {H : Hp} {s : Shared}
theorem unbind_ok {M : Model} {A : Around} {E : Value → Shared → Prop} {i : Nat} {x : Str} {pos : Pos} {Q : Unit → Shared → Prop} (I : Inv X pins σ H s) (hN : X.N.Nodup) (hi : X.N[i]? = some x) (hx : X.env.kindOf x = some .local) (hx2 : X.env.scope.names.lookup x = some .local)
    (h : ∀ s', Inv X pins (σ.set i none) H s' → Q () s') : wpAny M A (do bindName X.env x .none; unbindBehindTheSuite X.env x pos) Q E s := by
  have hcls : (X.env.scope.kind == .class || (X.env.scope.kind == .module && X.env.locals != X.env.globals)) = false := by rw [I.ok.kind]; rfl
  refine wpAny_bind (wpAny_bindName (store_ok (v := .non) I hN hi (.inl hx2) rfl (fun s1 I1 => ?_) (.inr hx2)))
  unfold unbindBehindTheSuite
  refine wpAny_onRaise ?_
  unfold unbindName
  refine wpAny_bind (wpAny_point (wpAny_bind ?_))
  unfold deleteName
  simp only [hx, hcls]
  rw [if_neg (by decide)]
  obtain ⟨m, hn, hl⟩ := id I1.loc
  refine wpAny_bind (wpAny_nsDel_keeps hn fun h' v hn' hs => ?_)
  have hiσ : i < σ.length := by rw [I.len]; exact (List.getElem?_eq_some_iff.mp hi).1
  have hm : (m x).isSome = true := by
    obtain ⟨u, _, l⟩ := hl i x .non hi (List.getElem?_set_self hiσ) (.inl hx2)
    rcases l with ⟨_, e⟩ | ⟨k, _⟩
    · rw [e]; rfl
    · rcases k with k | k <;> (rw [hx] at k; cases k)
  simp only [hm, if_true, Bool.not_true, Bool.false_eq_true, if_false]
  refine wpAny_pure (wpAny_point (h _ ?_))
  obtain ⟨oL, _, _, hoL, _⟩ := id hn
  have cne := I1.cne
  have tracked : HOk X.prog X.w H h' := fun b ob e => by
    refine (I1.hok b ob e).stay (fun c w' hc q => (hs.2 c ?_).trans q) (fun _ q => q) fun _ _ q => q
    rintro rfl
    have hfree := I1.free
    rcases hc with hc | hc
    · rw [← hc] at e; rw [hfree] at e; cases e
    · rw [hfree] at hc; cases hc
  refine ⟨I1.ok, I1.os, I1.bare, ⟨fun b o e n hb hx => ?_, fun b o e n hb hx => ?_, I1.base.free, fun b o e hx => ?_, I1.base.tups, I1.base.frzs, I1.base.tbls⟩, ⟨_, hn', fun j y v' e1 e2 e3 => ?_⟩, fun y c e => ?_, I1.free, I1.freeC, fun p hp => ?_, tracked, by rw [List.length_set]; exact I.len⟩
  · exact (hs.2 b (Nat.ne_of_lt (Nat.lt_of_lt_of_le (Heap.lt_size e) I1.ok.above))).trans (I1.base.keep b o e n hb hx)
  · obtain ⟨sl, e1⟩ := I1.base.slot b o e n hb hx
    exact ⟨sl, (hs.2 b (Nat.ne_of_lt (Nat.lt_of_lt_of_le (Heap.lt_size e) I1.ok.above))).trans e1⟩
  · obtain ⟨o', e1⟩ := I1.base.there b o e hx
    exact ⟨o', (hs.2 b (Nat.ne_of_lt (Nat.lt_of_lt_of_le (Heap.lt_size e) I1.ok.above))).trans e1⟩
  · have hj : j ≠ i := fun z => by
      subst z
      rw [List.getElem?_set_self hiσ] at e2
      cases e2
    rw [List.getElem?_set_ne (Ne.symm hj)] at e2
    obtain ⟨u', r', q⟩ := hl j y v' e1 (by rw [List.getElem?_set_ne (Ne.symm hj)]; exact e2) e3
    refine ⟨u', r', ?_⟩
    rcases q with ⟨k, e⟩ | ⟨k, c, e, z⟩
    · refine .inl ⟨k, ?_⟩
      have : y ≠ x := fun e => hj (nodup_ix hN e1 (e ▸ hi))
      simp [this, e]
    · exact .inr ⟨k, c, e, z.sameBut hs (cne y c e)⟩
  · obtain ⟨w', z⟩ := I1.cell y c e
    exact ⟨w', z.sameBut hs (cne y c e)⟩
  · obtain ⟨e, n, ne, nf, d⟩ := I1.pin p hp
    exact ⟨(hs.2 p.1 ne).trans e, n, ne, nf, d⟩
end

theorem Inv.trackX {X : Cx} {pins : List (Addr × Obj)} {σ : L2.St} {H : Hp} {s : Shared} {a T C : Addr} {o : Obj} (I : L2.Inv X pins σ H s) (ap : ApX X pins H a T) (he : s.heap.get? a = some o) (hc : o.cls = .ref C) : L2.Inv X pins σ (upd H a (ExO a C)) s := by
  refine ⟨I.ok, I.os, I.bare, ⟨I.base.keep, I.base.slot, fun b o' e n hx => ?_, I.base.there, fun b xs e => ?_, fun b o' u e => ?_, fun b ps e => ?_⟩, I.loc, I.cell, ?_, fun x c e => ?_, fun p hp => ?_, ?_, I.len⟩
  · rw [upd_ne (ap.s0 b o' e).1]; exact I.base.free b o' e n hx
  · have z := I.base.tups b xs e
    rw [upd_ne (ne_of_none z ap.ha)]; exact z
  · have z := I.base.frzs b o' u e
    rw [upd_ne (ne_of_none z ap.ha)]; exact z
  · obtain ⟨more, z⟩ := I.base.tbls b ps e
    exact ⟨more, by rw [upd_ne (ne_of_none z ap.ha)]; exact z⟩
  · rw [upd_ne ap.loc.1]; exact I.free
  · rw [upd_ne (ap.cel x c e).1]; exact I.freeC x c e
  · obtain ⟨p1, p2, p3, p4, p5⟩ := I.pin p hp
    exact ⟨p1, by rw [upd_ne (ap.pin p hp).1]; exact p2, p3, p4, p5⟩
  · refine HOk.track I.hok ap.ha ⟨⟨o, he, hc⟩, ⟨o, he⟩, fun h1 h2 φ k => ?_⟩
    obtain ⟨o', e1, e2⟩ := φ
    exact ⟨o', k _ e1, e2⟩
def asEnds (i : Nat) (D : Ends) : Ends := { nx := fun σ H => D.nx (σ.set i none) H, rt := D.rt, bk := fun σ H => D.bk (σ.set i none) H, ct := fun σ H => D.ct (σ.set i none) H }
def tTryAs (n i : Nat) (K : PySem.W.Frag) (B : Addr) (E : XK) (tb th : TS) : TS := fun D σ H => tb D σ H ∧ ∀ (e C' : Addr) (σ' : L2.St) (H' : Hp), σ'.length = n → H' e = none → E (.ref e) (some C') H' → mroIn K C' (.ref B) = some true ∧ th (asEnds i D) (σ'.set i (some (.ref e))) (upd H' e (ExO e C'))
section
variable {X : Cx} {x y : Str} {C : Addr} {np hpos pos : Pos} {body suite : List Stmt} {b₀ : Stmt} {tb th : TS} {E : XK} {i : Nat} {K : PySem.W.Frag}
theorem ps_tryAs (hK : X.K = K) (hx : X.ex = []) (hstk : X.stack = X.env :: X.outer) (hf : X.env.frame = some X.env.locals) (O : ExcC X.K X.mg x C) (hg : Gl X x) (hN : X.N.Nodup) (hi : X.N[i]? = some y) (hy : X.env.kindOf y = some .local) (hy2 : X.env.scope.names.lookup y = some .local)
    (hB : ∀ ps, PSs (pinX X ps (CaughtX X ps E)) body tb) (hS : ∀ e, PSs (handX X e) (b₀ :: suite) th) (hdb : (x == ("__debug__" : Str)) = false := by decide) :
    PS X (.Try body [.ExceptHandler (some (.Name x np)) (some y) (b₀ :: suite) hpos] [] [] pos) (tTryAs X.N.length i K C E tb th) := by
  subst hK
  intro pins s σ H D I ⟨hb, hh⟩
  refine wpAny_Try_except (wpAny_mono (hB pins [] s σ H D (Inv.pinX I) hb) (fun f s1 h1 => ?_) (fun ex s1 h1 => ?_))
  · have h2 := SP.unpin h1
    cases f with
    | next => exact wpAny_execs_nil h2
    | brk => exact h2
    | cont => exact h2
    | ret u => exact h2
  · obtain ⟨a, T, C', σ', H', rfl, I1, trc, ap, q⟩ := h1
    have hfr : X.A.frames = some (X.env :: X.outer) := by rw [← hstk]; exact I.ok.frames
    have hst : s1.heap.FunFrames X.base (X.env :: X.outer) := by rw [← hstk]; exact I1.stack
    refine note_next (base := X.base) (outer := X.outer) hfr hst hf trc fun h2 T2 l => ?_
    have l' : Lft (frs X.stack) a T T2 (.ref C') s1.heap h2 := by rw [hstk]; exact l
    have I2 := Inv.left I1 hx ap l'
    have I3 : Inv (handX X a) pins σ' H' { s1 with heap := h2 } := Inv.handX I2
    obtain ⟨tl, N, nm, q0, bs, hdct, sn, sub, ab, col, dd, k0, k1, k2, k3, k5, mN, hC, hNs, hni, TL⟩ := (O X.base I.mod.kin).obj
    obtain ⟨oe, vs, oT, ts, he, hcls, _⟩ := id l.trc
    have hn : H' a = none := ap.ha
    obtain ⟨hup, q2⟩ := hh a C' σ' H' I1.len hn q
    refine wpAny_handleBy_cons (codeAny_handlers_test (ld_glob (X := handX X a) I3 hg (O X.base I.mod.kin).bound ?_ hdb)) (by intro q; cases q)
    refine excMatches_up I2.kIn (I2.bk _ _ hC) he hcls (TL.hasType PySem.F.excBase_ValueError.hasBase) hup (codeAny_handlers_suite_as ?_)
    refine flight_end (s := { s1 with heap := h2 }) l.trc fun h3 hk trc3 => ?_
    have hT2 : H' T2 = none := by
      cases r : H' T2 with
      | none => rfl
      | some o =>
        obtain ⟨ob, z⟩ := ObjOk.at (I1.hok T2 o r)
        rw [l.new] at z; cases z
    have ap2 : ApX X pins H' T2 T2 := ApX.of I1 hx l.new l.new hT2 hT2
    have I4 := Inv.leftK I2 hx ap2 (h2 := h3) (fun b o _ n1 _ ho => (hk b n1).trans ho) (fun b o _ n1 _ ho => ⟨o.slots, (hk b n1).trans ho⟩)
    obtain ⟨oe3, vs3, oT3, ts3, he3, hcls3, _⟩ := id trc3
    have I5 := Inv.trackX (C := C') I4 ap he3 hcls3
    have I6 : L2.Inv (handX X a) pins σ' (upd H' a (ExO a C')) { s1 with heap := h3 } := Inv.handX I5
    refine store_ok (X := handX X a) (v := .ref a) I6 hN hi (.inl hy2) rfl (fun s5 I7 => ?_) (.inr hy2)
    refine wpAny_mono (hS a pins s5 _ _ (asEnds i D) I7 q2) (fun f s2 h => ?_) (fun _ _ z => False.elim z)
    cases f with
    | next =>
      obtain ⟨σ2, H2, J, q3⟩ := h
      exact unbind_ok (Inv.unhand I.ok J) hN hi hy hy2 fun s' J' => ⟨_, H2, J', q3⟩
    | brk =>
      obtain ⟨σ2, H2, J, q3⟩ := h
      exact unbind_ok (Inv.unhand I.ok J) hN hi hy hy2 fun s' J' => ⟨_, H2, J', q3⟩
    | cont =>
      obtain ⟨σ2, H2, J, q3⟩ := h
      exact unbind_ok (Inv.unhand I.ok J) hN hi hy hy2 fun s' J' => ⟨_, H2, J', q3⟩
    | ret u =>
      obtain ⟨v, σ2, H2, J, r, q3⟩ := h
      exact unbind_ok (Inv.unhand I.ok J) hN hi hy hy2 fun s' J' => ⟨v, _, H2, J', r, q3⟩
end

end L3



namespace L2
open PySem PySem.Spec PyProof.Rows

section
variable {X : Cx} {pins : List (Addr × Obj)} {σ : List (Option V)} {H H' : Hp} {s : Shared} {h' : Heap}

end

end L2

namespace L2
open PySem PySem.Spec PyProof.Rows
section
variable {X : Cx}

variable {a b : Expr} {ta tb : TE} {pos : Pos}
variable {tA tB' : TT} {rest : List Expr}
end
end L2



namespace L2
open PySem PySem.Spec PyProof.Rows

section
variable {X : Cx} {a b c : Expr} {ta tb tc : TE} {pos : Pos}

end

end L2

namespace L2
open PySem PySem.Spec PyProof.Rows

section
variable {prog : Program} {w : World} {A : Around} {E : Value → Shared → Prop} {s : Shared} {K : PySem.W.Frag} {x dx C f : Addr} {mA : Str → Option Value} {name : Str} {v : Value}

end


section
variable {X : Cx} {pins : List (Addr × Obj)} {σ : St} {H : Hp} {s : Shared} {a C dx : Addr} {fs : List (Str × V)} {f : Str} {v : V} {A : Around} {E : Value → Shared → Prop}

end


end L2

namespace L2
open PySem PySem.Spec PyProof.Rows



section
variable {X : Cx} {CX : CXT} {k : Nat} {f C : Addr} {fd : FuncData} {ps : List Str} {sp : Sp} {dvs : List V} {ds : List Value} {E : XK} {x m : Str} {p pos apos : Pos} {e o : Expr} {es : List Expr} {ta : TE} {t : TA}

end


end L2

namespace L2
open PySem PySem.Spec PyProof.Rows
section
variable {X : Cx} {x : Str} {p pos : Pos} {e : Expr} {es : List Expr} {t : TA} {id T : String} {r : List V → Hp → VK → Prop}

end
end L2

namespace L2
open PySem PySem.Spec PyProof.Rows

section
variable {κ : Type} [DecidableEq κ]
def valV (kvs : List (κ × V)) (k : κ) : Option V := (kvs.find? fun kv => decide (kv.1 = k)).map (·.2)
def putK (kvs : List (κ × V)) (k : κ) (v : V) : List (κ × V) :=
  if (kvs.any fun kv => decide (kv.1 = k)) = true then kvs.map (fun kv => if kv.1 = k then (kv.1, v) else kv) else kvs ++ [(k, v)]
def dropK (kvs : List (κ × V)) (k : κ) : List (κ × V) := kvs.filter fun kv => decide (kv.1 ≠ k)

theorem valV_pos {p : κ × V} {r : List (κ × V)} {k : κ} (e : p.1 = k) : valV (p :: r) k = some p.2 := by simp [valV, List.find?_cons, e]
theorem valV_neg {p : κ × V} {r : List (κ × V)} {k : κ} (e : ¬ p.1 = k) : valV (p :: r) k = valV r k := by simp [valV, List.find?_cons, e]

theorem RelO.getD {o : Option V} {u : Option Value} {d : V} {d' : Value} (r : RelO o u) (rd : RelV d d') : RelV (o.getD d) (u.getD d') := by
  cases o with
  | none => cases u with
    | none => exact rd
    | some _ => exact (show False from r).elim
  | some _ => cases u with
    | none => exact (show False from r).elim
    | some _ => exact r

theorem KV.val {kvs : List (κ × V)} {vs : List (κ × Value)} (r : KV kvs vs) (k : κ) : RelO (valV kvs k) (valueAt vs k) := by
  unfold KV at r
  induction r with
  | nil => exact True.intro
  | @cons p q ps qs h t ih =>
    obtain ⟨h1, h2⟩ := h
    by_cases e : p.1 = k
    · have e' : q.1 = k := h1.symm.trans e
      have b : valueAt (q :: qs) k = some q.2 := by simp [valueAt, List.find?_cons, e']
      rw [valV_pos e, b]; exact h2
    · have e' : ¬ q.1 = k := fun z => e (h1.trans z)
      have b : valueAt (q :: qs) k = valueAt qs k := by simp [valueAt, List.find?_cons, e']
      rw [valV_neg e, b]; exact ih
theorem KV.any {kvs : List (κ × V)} {vs : List (κ × Value)} (r : KV kvs vs) (k : κ) : (kvs.any fun kv => decide (kv.1 = k)) = vs.any fun kv => decide (kv.1 = k) := by
  unfold KV at r
  induction r with
  | nil => rfl
  | cons h t ih => rw [List.any_cons, List.any_cons, ih, h.1]
theorem KV.drop {kvs : List (κ × V)} {vs : List (κ × Value)} (r : KV kvs vs) (k : κ) : KV (dropK kvs k) (without vs k) := by
  unfold KV at r ⊢
  unfold dropK without
  induction r with
  | nil => exact .nil
  | @cons p q ps qs h t ih =>
    obtain ⟨h1, h2⟩ := h
    rw [List.filter_cons, List.filter_cons]
    by_cases e : p.1 = k
    · have a : ¬ decide (p.1 ≠ k) = true := by simp [e]
      have b : ¬ decide (q.1 ≠ k) = true := by simp [h1.symm.trans e]
      rw [if_neg a, if_neg b]; exact ih
    · have e' : ¬ q.1 = k := fun z => e (h1.trans z)
      have a : decide (p.1 ≠ k) = true := by simp [e]
      have b : decide (q.1 ≠ k) = true := by simp [e']
      rw [if_pos a, if_pos b]; exact .cons ⟨h1, h2⟩ ih
theorem KV.keys {kvs : List (κ × V)} {vs : List (κ × Value)} (r : KV kvs vs) : kvs.map (·.1) = vs.map (·.1) := by
  unfold KV at r
  induction r with
  | nil => rfl
  | cons h t ih => rw [List.map_cons, List.map_cons, ih, h.1]
theorem KV.length {kvs : List (κ × V)} {vs : List (κ × Value)} (r : KV kvs vs) : kvs.length = vs.length := Paired.length r
end



abbrev KT (H : Hp) : List (List Key × V) → List (List Key × Addr × Value) → Prop := Paired fun p q => p.1 = q.1 ∧ H q.2.1 = some (.tup (p.1.map kV)) ∧ RelV p.2 q.2.2
theorem KT.val {H : Hp} {kvs : List (List Key × V)} {xs : List (List Key × Addr × Value)} (r : KT H kvs xs) (k : List Key) : RelO (valV kvs k) ((atKey xs k).map (·.2)) := by
  induction r with
  | nil => exact True.intro
  | @cons p q ps qs h t ih =>
    obtain ⟨h1, _, h2⟩ := h
    by_cases e : p.1 = k
    · have e' : q.1 = k := h1.symm.trans e
      have b : atKey (q :: qs) k = some q.2 := by simp [atKey, List.find?_cons, e']
      rw [valV_pos e, b]; exact h2
    · have e' : ¬ q.1 = k := fun z => e (h1.trans z)
      have b : atKey (q :: qs) k = atKey qs k := by simp [atKey, List.find?_cons, e']
      rw [valV_neg e, b]; exact ih
theorem KT.keeps {H H' : Hp} {kvs : List (List Key × V)} {xs : List (List Key × Addr × Value)} (r : KT H kvs xs) (ht : ∀ b ys, H b = some (.tup ys) → H' b = some (.tup ys)) : KT H' kvs xs :=
  Paired.mapP r fun _ _ z => ⟨z.1, ht _ _ z.2.1, z.2.2⟩

section
variable {P : Program} {w : World} {H : Hp} {h : Heap} {a : Addr}
end

def DGet (H : Hp) (a : Addr) (y : V) (r : Option V) : Prop :=
  (∃ kvs k, Rd H a (.dK kvs) ∧ y = kV k ∧ r = valV kvs k) ∨ ∃ kvs k b, Rd H a (.dT kvs) ∧ y = .ref b ∧ H b = some (.tup (k.map kV)) ∧ r = valV kvs k
def DPut (H : Hp) (a : Addr) (y v : V) (H' : Hp) : Prop :=
  (∃ kvs k, H a = some (.dK kvs) ∧ y = kV k ∧ kvs.length < sizeLine ∧ H' = upd H a (.dK (putK kvs k v))) ∨
  ∃ kvs k b, H a = some (.dT kvs) ∧ y = .ref b ∧ H b = some (.tup (k.map kV)) ∧ kvs.length < sizeLine ∧ H' = upd H a (.dT (putK kvs k v))
theorem DGet.k {H : Hp} {a : Addr} {kvs : List (Key × V)} {k : Key} (e : H a = some (.dK kvs)) : DGet H a (kV k) (valV kvs k) := .inl ⟨kvs, k, .inl e, rfl, rfl⟩
theorem DGet.t {H : Hp} {a b : Addr} {kvs : List (List Key × V)} {k : List Key} (e : H a = some (.dT kvs)) (eb : H b = some (.tup (k.map kV))) : DGet H a (.ref b) (valV kvs k) := .inr ⟨kvs, k, b, .inl e, rfl, eb, rfl⟩
theorem DPut.k {H : Hp} {a : Addr} {kvs : List (Key × V)} {k : Key} {v : V} (e : H a = some (.dK kvs)) (hl : kvs.length < sizeLine) : DPut H a (kV k) v (upd H a (.dK (putK kvs k v))) := .inl ⟨kvs, k, e, rfl, hl, rfl⟩
theorem DPut.t {H : Hp} {a b : Addr} {kvs : List (List Key × V)} {k : List Key} {v : V} (e : H a = some (.dT kvs)) (eb : H b = some (.tup (k.map kV))) (hl : kvs.length < sizeLine) :
    DPut H a (.ref b) v (upd H a (.dT (putK kvs k v))) := .inr ⟨kvs, k, b, e, rfl, eb, hl, rfl⟩


section
variable {X : Cx} {pins : List (Addr × Obj)} {σ : St} {H : Hp} {s : Shared} {a : Addr} {y v : V} {u r : Value} {o : Option V} {A : Around} {E : Value → Shared → Prop}


end

section
variable {X : Cx} {pins : List (Addr × Obj)} {σ : St} {H : Hp} {s : Shared} {a : Addr} {kvs : List (Key × V)} {k : Key} {u : Value} {A : Around} {E : Value → Shared → Prop}
end





section
variable {X : Cx} {o i e value : Expr} {pos pos' tpos : Pos} {td ty tv : TE}
end


section
variable {X : Cx} {pos : Pos}
end




structure M1 (X : Cx) (o : Expr) (m : Str) (apos : Pos) (e : Expr) (cpos : Pos) : Prop where
  base : attributeBase o m X.env (eval o X.env) = eval o X.env
  few : ((backTo cpos (starEach [e] X.env)).all (fun x => !x.1) && (backToKw cpos (keywordEach [] X.env)).all (fun x => x.1.isSome)
    && decide (([e] : List Expr).length + ([] : List Keyword).length + (if ([] : List Keyword).isEmpty then 0 else 1) < 30)) = true
  line : (apos.endLine == cpos.line) = true
  trees : backTo cpos (starEach [e] X.env) = [(false, eval e X.env)]
structure M2 (X : Cx) (o : Expr) (m : Str) (apos : Pos) (e f : Expr) (cpos : Pos) : Prop where
  base : attributeBase o m X.env (eval o X.env) = eval o X.env
  few : ((backTo cpos (starEach [e, f] X.env)).all (fun x => !x.1) && (backToKw cpos (keywordEach [] X.env)).all (fun x => x.1.isSome)
    && decide (([e, f] : List Expr).length + ([] : List Keyword).length + (if ([] : List Keyword).isEmpty then 0 else 1) < 30)) = true
  line : (apos.endLine == cpos.line) = true
  trees : backTo cpos (starEach [e, f] X.env) = [(false, eval e X.env), (false, eval f X.env)]


section
variable {X : Cx} {pins : List (Addr × Obj)} {σ : St} {H : Hp} {s : Shared} {a : Addr} {y d : V} {u r : Value} {o : Option V} {A : Around} {E : Value → Shared → Prop}
end

section
variable {X : Cx} {o e f : Expr} {apos cpos : Pos} {td ty tx : TE}
end

section
variable {X : Cx} {pins : List (Addr × Obj)} {σ : St} {H : Hp} {s : Shared} {a : Addr} {kvs : List (Key × V)} {A : Around} {E : Value → Shared → Prop}
end


section
variable {X : Cx} {pins : List (Addr × Obj)} {σ : St} {H : Hp} {s : Shared} {a : Addr} {y : V} {u : Value} {A : Around} {E : Value → Shared → Prop}
end
end L2

namespace Att
open PySem PySem.W PySem.Calls PyProof.Rows

section
variable {prog : Program} {w : World} {A : Around} {E : Value → Shared → Prop} {s : Shared} {K : Frag}

end
end Att



namespace L2
open PySem PySem.Spec PyProof.Rows

section
variable {X : Cx}
end

section
variable {κ : Type} [DecidableEq κ]
end
end L2

namespace L3
open PySem PySem.Spec PyProof.Rows L2
def rowsT (k : Nat) : List (List Int) := (cntB k 0).1
def lineR (k : Nat) : List Nat := (cntB k 0).2
theorem tok_facts : ∀ k : Fin 4, ((rowsT k.val).length ≤ 24 ∧ (∀ r ∈ rowsT k.val, r.length = 2 ∧ ∀ x ∈ r, 0 ≤ x ∧ x < (2 ^ k.val : Nat))) ∧ (lineR k.val).length = 2 ^ k.val ∧ ∀ l : Fin 8, l.val < 2 ^ k.val → l.val ∈ lineR k.val ∧ (lineR k.val).idxOf l.val < 2 ^ k.val := by
  decide +kernel
theorem rowF {k : Nat} (h : k ≤ 3) : (rowsT k).length ≤ 24 ∧ ∀ r ∈ rowsT k, r.length = 2 ∧ ∀ x ∈ r, 0 ≤ x ∧ x < (2 ^ k : Nat) := (tok_facts ⟨k, by omega⟩).1
theorem pow8 {k : Nat} (h : k ≤ 3) : 2 ^ k ≤ 8 := Nat.le_trans (Nat.pow_le_pow_right (by decide) h) (by decide)
theorem lineF' {k l : Nat} (h : k ≤ 3) (hl : l < 2 ^ k) : (lineR k).length = 2 ^ k ∧ l ∈ lineR k ∧ (lineR k).idxOf l < 2 ^ k :=
  ⟨(tok_facts ⟨k, by omega⟩).2.1, (tok_facts ⟨k, by omega⟩).2.2 ⟨l, by have := pow8 h; omega⟩ hl⟩
structure CSt where
  ups : List Bool
  toks : List (Option (Nat × Nat))
  outs : List Nat
  gv : List Nat
def flds (k : Nat) (vg vo : V) (lu lt lc lg : Addr) : List (Str × V) := putF "given" (.ref lg) (putF "came_out" (.ref lc) (putF "tokens" (.ref lt) (putF "ups" (.ref lu) (putF "out_lines" vo (putF "gates" vg (putF "depth" (.int k) []))))))
theorem putF_len {f : Str} {v : V} : ∀ fs : List (Str × V), (putF f v fs).length ≤ fs.length + 1
  | [] => Nat.le_refl _
  | (g, w) :: r => by
    unfold putF
    split
    · show (r.length + 1) ≤ _; exact Nat.le_succ _
    · have := putF_len (f := f) (v := v) r
      show (putF f v r).length + 1 ≤ r.length + 1 + 1
      omega
section
variable {k : Nat} {vg vo : V} {lu lt lc lg : Addr}
theorem f_depth : (flds k vg vo lu lt lc lg).lookup ("depth" : Str) = some (.int k) := by
  unfold flds
  rw [lookup_putF, if_neg (by decide +kernel), lookup_putF, if_neg (by decide +kernel), lookup_putF, if_neg (by decide +kernel), lookup_putF, if_neg (by decide +kernel), lookup_putF, if_neg (by decide +kernel), lookup_putF, if_neg (by decide +kernel), lookup_putF, if_pos rfl]
theorem f_gates : (flds k vg vo lu lt lc lg).lookup ("gates" : Str) = some vg := by
  unfold flds
  rw [lookup_putF, if_neg (by decide +kernel), lookup_putF, if_neg (by decide +kernel), lookup_putF, if_neg (by decide +kernel), lookup_putF, if_neg (by decide +kernel), lookup_putF, if_neg (by decide +kernel), lookup_putF, if_pos rfl]
theorem f_out : (flds k vg vo lu lt lc lg).lookup ("out_lines" : Str) = some vo := by
  unfold flds
  rw [lookup_putF, if_neg (by decide +kernel), lookup_putF, if_neg (by decide +kernel), lookup_putF, if_neg (by decide +kernel), lookup_putF, if_neg (by decide +kernel), lookup_putF, if_pos rfl]
theorem f_ups : (flds k vg vo lu lt lc lg).lookup ("ups" : Str) = some (.ref lu) := by
  unfold flds
  rw [lookup_putF, if_neg (by decide +kernel), lookup_putF, if_neg (by decide +kernel), lookup_putF, if_neg (by decide +kernel), lookup_putF, if_pos rfl]
theorem f_tok : (flds k vg vo lu lt lc lg).lookup ("tokens" : Str) = some (.ref lt) := by
  unfold flds
  rw [lookup_putF, if_neg (by decide +kernel), lookup_putF, if_neg (by decide +kernel), lookup_putF, if_pos rfl]
theorem f_co : (flds k vg vo lu lt lc lg).lookup ("came_out" : Str) = some (.ref lc) := by
  unfold flds
  rw [lookup_putF, if_neg (by decide +kernel), lookup_putF, if_pos rfl]
theorem f_gv : (flds k vg vo lu lt lc lg).lookup ("given" : Str) = some (.ref lg) := by
  unfold flds
  rw [lookup_putF, if_pos rfl]
theorem f_no {m : Str} (h1 : ¬ m = "depth") (h2 : ¬ m = "gates") (h3 : ¬ m = "out_lines") (h4 : ¬ m = "ups") (h5 : ¬ m = "tokens") (h6 : ¬ m = "came_out") (h7 : ¬ m = "given") : (flds k vg vo lu lt lc lg).lookup m = none := by
  unfold flds
  rw [lookup_putF, if_neg h7, lookup_putF, if_neg h6, lookup_putF, if_neg h5, lookup_putF, if_neg h4, lookup_putF, if_neg h3, lookup_putF, if_neg h2, lookup_putF, if_neg h1]
  all_goals rfl
end
def TokAt (K : PySem.W.Frag) (H : Hp) (x : V) : Option (Nat × Nat) → Prop
  | none => x = .non
  | some (l, b) => BoardAt K H x [(l : Int), (b : Int)]
theorem Grow.toks {m : List Addr} {H H' : Hp} (g : Grow m H H') {K : PySem.W.Frag} {xs : List V} {ts : List (Option (Nat × Nat))} (h : AllR (TokAt K H) xs ts) : AllR (TokAt K H') xs ts :=
  h.imp fun x o z => by
    cases o with
    | none => exact z
    | some q => exact g.board z
def NatT (H : Hp) (x : V) (ns : List Nat) : Prop := ∃ r, x = .ref r ∧ FrT H r (natsV ns)
def SqTB (K : PySem.W.Frag) (H : Hp) (x : V) (ns : List Nat) : Prop := ∃ r, x = .ref r ∧ SqT K H r (natsV ns)
structure CtrAt (K : PySem.W.Frag) (C : Addr) (k : Nat) (p lu lt lc lg : Addr) (H : Hp) (st : CSt) : Prop where
  ob : ∃ dx vg vo, H p = some (.ins C dx (flds k vg vo lu lt lc lg)) ∧ RowsAt K H vg (rowsT k) ∧ NatT H vo (lineR k)
  up : H lu = some (.lst (st.ups.map V.bl))
  tk : ∃ xs, H lt = some (.lst xs) ∧ AllR (TokAt K H) xs st.toks
  co : H lc = some (.lst (natsV st.outs))
  gv : H lg = some (.lst (natsV st.gv))
  n1 : lu ≠ lt
  n2 : lu ≠ lc
  n3 : lu ≠ lg
  n4 : lt ≠ lc
  n5 : lt ≠ lg
  n6 : lc ≠ lg
theorem CtrAt.grow {K : PySem.W.Frag} {C : Addr} {k : Nat} {p lu lt lc lg : Addr} {H H' : Hp} {st : CSt} {m : List Addr} (h : CtrAt K C k p lu lt lc lg H st) (g : Grow m H H') (h0 : p ∉ m) (h1 : lu ∉ m) (h2 : lt ∉ m) (h3 : lc ∉ m) (h4 : lg ∉ m) : CtrAt K C k p lu lt lc lg H' st := by
  obtain ⟨⟨dx, vg, vo, e, r, o⟩, up, ⟨xs, t1, t2⟩, co, g1, n1, n2, n3, n4, n5, n6⟩ := h
  exact ⟨⟨dx, vg, vo, g.keep _ _ h0 e, g.rows r, by obtain ⟨ro, eo, so⟩ := o; exact ⟨ro, eo, g.frT so⟩⟩, g.keep _ _ h1 up, ⟨xs, g.keep _ _ h2 t1, g.toks t2⟩, g.keep _ _ h3 co, g.keep _ _ h4 g1, n1, n2, n3, n4, n5, n6⟩
structure StOk (k : Nat) (st : CSt) : Prop where
  u : st.ups.length = (rowsT k).length
  o : st.outs.length = 2 ^ k
  t : ∀ l b, some (l, b) ∈ st.toks → l < 2 ^ k ∧ b ≤ (rowsT k).length
def tcm (rows : List (List Int)) (l b n : Nat) : List Nat := (List.range n).filter fun i => decide ((l : Int) ∈ rows.getD (b + i) [])
def lnN (rows : List (List Int)) (a : Nat) (up : Bool) : Nat := ((rows.getD a []).getD (if up = true then 0 else 1) 0).toNat
def outN (k : Nat) (st : CSt) (l : Nat) : Nat := st.outs.getD ((lineR k).idxOf l) 0 * 2 ^ k + (lineR k).idxOf l
def outS (k : Nat) (st : CSt) (t l : Nat) : CSt := ⟨st.ups, st.toks.set t none, st.outs.set ((lineR k).idxOf l) (st.outs.getD ((lineR k).idxOf l) 0 + 1), st.gv ++ [outN k st l]⟩
def goS (k : Nat) (st : CSt) (t l b : Nat) : CSt := match (tcm (rowsT k) l b ((rowsT k).length - b)).head? with
  | some i => ⟨st.ups.set (b + i) (!(st.ups.getD (b + i) true)), st.toks.set t (some (lnN (rowsT k) (b + i) (st.ups.getD (b + i) true), b + i + 1)), st.outs, st.gv⟩
  | none => outS k st t l
def goV (k : Nat) (st : CSt) (l b : Nat) : V := match (tcm (rowsT k) l b ((rowsT k).length - b)).head? with
  | some _ => .non
  | none => .int (outN k st l)
def sp_init87 (C : Addr) (K : PySem.W.Frag) : Sp := sp2 fun x y H Q => ∃ (p dx : Addr) (k : Nat), x = .ref p ∧ y = .int k ∧ k ≤ 3 ∧ H p = some (.ins C dx []) ∧
  ∀ lu lt lc lg H', Grow [p] H H' → H lu = none → H lt = none → H lc = none → H lg = none → CtrAt K C k p lu lt lc lg H' ⟨List.replicate (rowsT k).length true, [], List.replicate (2 ^ k) 0, []⟩ → Q .non H'
def sp_come_out87 (C : Addr) (K : PySem.W.Frag) : Sp := sp3 fun x y z H Q => ∃ (p lu lt lc lg : Addr) (k t l : Nat) (st : CSt), x = .ref p ∧ y = .int t ∧ z = .int l ∧ k ≤ 3 ∧ CtrAt K C k p lu lt lc lg H st ∧ StOk k st ∧ l < 2 ^ k ∧ t < st.toks.length ∧ st.gv.length ≤ 900 ∧ (∀ v ∈ st.outs, v ≤ 1000) ∧
  ∀ H', Grow [lt, lc, lg] H H' → CtrAt K C k p lu lt lc lg H' (outS k st t l) → Q (.int (outN k st l)) H'
def sp_outs87 (C : Addr) (K : PySem.W.Frag) : Sp := sp1 fun x H Q => ∃ (p lu lt lc lg : Addr) (k : Nat) (st : CSt), x = .ref p ∧ CtrAt K C k p lu lt lc lg H st ∧ ∀ y H', Grow [] H H' → SqTB K H' y st.outs → Q y H'
def sp_cnet87 (K : PySem.W.Frag) : Sp := sp1 fun x H Q => ∃ k : Nat, x = .int k ∧ k ≤ 3 ∧ ∀ t a b H', Grow [] H H' → SqT K H' t [a, b] → RowsAt K H' a (rowsT k) → NatT H' b (lineR k) → Q (.ref t) H'
section
variable {K : PySem.W.Frag} {C : Addr} {k : Nat} {p lu lt lc lg : Addr} {H : Hp} {st : CSt}
theorem CtrAt.pu (h : CtrAt K C k p lu lt lc lg H st) : p ≠ lu := fun e => by
  obtain ⟨dx, vg, vo, e1, _⟩ := h.ob
  rw [e, h.up] at e1; cases e1
theorem CtrAt.pt (h : CtrAt K C k p lu lt lc lg H st) : p ≠ lt := fun e => by
  obtain ⟨dx, vg, vo, e1, _⟩ := h.ob
  obtain ⟨xs, e2, _⟩ := h.tk
  rw [e, e2] at e1; cases e1
theorem CtrAt.pc (h : CtrAt K C k p lu lt lc lg H st) : p ≠ lc := fun e => by
  obtain ⟨dx, vg, vo, e1, _⟩ := h.ob
  rw [e, h.co] at e1; cases e1
theorem CtrAt.pg (h : CtrAt K C k p lu lt lc lg H st) : p ≠ lg := fun e => by
  obtain ⟨dx, vg, vo, e1, _⟩ := h.ob
  rw [e, h.gv] at e1; cases e1
theorem CtrAt.setU (h : CtrAt K C k p lu lt lc lg H st) (us : List Bool) : CtrAt K C k p lu lt lc lg (upd H lu (.lst (us.map V.bl))) ⟨us, st.toks, st.outs, st.gv⟩ := by
  have g := Grow.set (m := [lu]) h.up (by simp) (us.map V.bl)
  have pu := h.pu
  obtain ⟨⟨dx, vg, vo, e, r, o⟩, up, ⟨xs, t1, t2⟩, co, g1, n1, n2, n3, n4, n5, n6⟩ := h
  exact ⟨⟨dx, vg, vo, g.keep _ _ (by simpa using pu) e, g.rows r, by obtain ⟨ro, eo, so⟩ := o; exact ⟨ro, eo, g.frT so⟩⟩, upd_same, ⟨xs, g.keep _ _ (by simpa using n1.symm) t1, g.toks t2⟩, g.keep _ _ (by simpa using n2.symm) co, g.keep _ _ (by simpa using n3.symm) g1, n1, n2, n3, n4, n5, n6⟩
theorem CtrAt.setT (h : CtrAt K C k p lu lt lc lg H st) {ys : List V} {ts : List (Option (Nat × Nat))} (hy : AllR (TokAt K H) ys ts) : CtrAt K C k p lu lt lc lg (upd H lt (.lst ys)) ⟨st.ups, ts, st.outs, st.gv⟩ := by
  have pt := h.pt
  obtain ⟨⟨dx, vg, vo, e, r, o⟩, up, ⟨xs, t1, t2⟩, co, g1, n1, n2, n3, n4, n5, n6⟩ := h
  have g := Grow.set (m := [lt]) t1 (by simp) ys
  exact ⟨⟨dx, vg, vo, g.keep _ _ (by simpa using pt) e, g.rows r, by obtain ⟨ro, eo, so⟩ := o; exact ⟨ro, eo, g.frT so⟩⟩, g.keep _ _ (by simpa using n1) up, ⟨ys, upd_same, g.toks hy⟩, g.keep _ _ (by simpa using n4.symm) co, g.keep _ _ (by simpa using n5.symm) g1, n1, n2, n3, n4, n5, n6⟩
theorem CtrAt.setC (h : CtrAt K C k p lu lt lc lg H st) (us : List Nat) : CtrAt K C k p lu lt lc lg (upd H lc (.lst (natsV us))) ⟨st.ups, st.toks, us, st.gv⟩ := by
  have g := Grow.set (m := [lc]) h.co (by simp) (natsV us)
  have pc := h.pc
  obtain ⟨⟨dx, vg, vo, e, r, o⟩, up, ⟨xs, t1, t2⟩, co, g1, n1, n2, n3, n4, n5, n6⟩ := h
  exact ⟨⟨dx, vg, vo, g.keep _ _ (by simpa using pc) e, g.rows r, by obtain ⟨ro, eo, so⟩ := o; exact ⟨ro, eo, g.frT so⟩⟩, g.keep _ _ (by simpa using n2) up, ⟨xs, g.keep _ _ (by simpa using n4) t1, g.toks t2⟩, upd_same, g.keep _ _ (by simpa using n6.symm) g1, n1, n2, n3, n4, n5, n6⟩
theorem CtrAt.addG (h : CtrAt K C k p lu lt lc lg H st) (n : Nat) : CtrAt K C k p lu lt lc lg (upd H lg (.lst (natsV (st.gv ++ [n])))) ⟨st.ups, st.toks, st.outs, st.gv ++ [n]⟩ := by
  have pg := h.pg
  have g := Grow.set (m := [lg]) h.gv (by simp) (natsV (st.gv ++ [n]))
  obtain ⟨⟨dx, vg, vo, e, r, o⟩, up, ⟨xs, t1, t2⟩, co, g1, n1, n2, n3, n4, n5, n6⟩ := h
  exact ⟨⟨dx, vg, vo, g.keep _ _ (by simpa using pg) e, g.rows r, by obtain ⟨ro, eo, so⟩ := o; exact ⟨ro, eo, g.frT so⟩⟩, g.keep _ _ (by simpa using n3) up, ⟨xs, g.keep _ _ (by simpa using n5) t1, g.toks t2⟩, g.keep _ _ (by simpa using n6) co, upd_same, n1, n2, n3, n4, n5, n6⟩
end
theorem comp_rngF {lo : Int} {n k : Nat} {tt : TT} {te : TE} {Q : VK} {σ : L2.St} {H : Hp} (Pv : Nat → List V → Hp → Prop) (h0 : Pv 0 [] H)
    (hs : ∀ i ys H', i < n → Pv i ys H' → tt (σ.set k (some (.int (lo + i)))) H' fun b H4 => if b = true then te (σ.set k (some (.int (lo + i)))) H4 fun y H5 => ys.length < sizeLine ∧ Pv (i + 1) (ys ++ [y]) H5 else Pv (i + 1) ys H4)
    (hd : ∀ ys H', Pv n ys H' → ∀ l, H' l = none → Q (.ref l) (upd H' l (.lst ys))) : CompW (Itr lo n) σ H (gName k) tt te Q := by
  refine ⟨fun i m ys σ' H' => m = n - i ∧ i ≤ n ∧ (σ' = σ ∨ ∃ e, σ' = σ.set k e) ∧ Pv i ys H', ⟨n, by simp, Nat.zero_le _, .inl rfl, h0⟩, ?_⟩
  rintro i m ys σ' H' ⟨rfl, hi, hσ, p⟩
  by_cases hlt : i < n
  · refine .inr ⟨hlt, fun zs σ2 H2 => (σ2 = σ ∨ ∃ e, σ2 = σ.set k e) ∧ Pv (i + 1) zs H2, fun zs σ2 H2 p' => ⟨n - (i + 1), by omega, rfl, hlt, p'.1, p'.2⟩, fun x H2 y => ?_⟩
    obtain ⟨e, y⟩ := y
    subst e y
    have e : σ'.set k (some (V.int (lo + i))) = σ.set k (some (V.int (lo + i))) := by
      rcases hσ with rfl | ⟨e, rfl⟩
      · rfl
      · rw [List.set_set]
    show tt (σ'.set k (some (V.int (lo + i)))) H2 fun b H4 => if b = true then te (σ'.set k (some (V.int (lo + i)))) H4 (fun y H5 => ys.length < sizeLine ∧ ((σ'.set k (some (V.int (lo + i))) = σ ∨ ∃ e, σ'.set k (some (V.int (lo + i))) = σ.set k e) ∧ Pv (i + 1) (ys ++ [y]) H5)) else ((σ'.set k (some (V.int (lo + i))) = σ ∨ ∃ e, σ'.set k (some (V.int (lo + i))) = σ.set k e) ∧ Pv (i + 1) ys H4)
    rw [e]
    have e2 : (fun (y : V) (H5 : Hp) => ys.length < sizeLine ∧ ((σ.set k (some (V.int (lo + i))) = σ ∨ ∃ e, σ.set k (some (V.int (lo + i))) = σ.set k e) ∧ Pv (i + 1) (ys ++ [y]) H5)) = fun y H5 => ys.length < sizeLine ∧ Pv (i + 1) (ys ++ [y]) H5 := by
      funext y H5
      exact propext ⟨fun z => ⟨z.1, z.2.2⟩, fun z => ⟨z.1, .inr ⟨_, rfl⟩, z.2⟩⟩
    have e3 : (fun (b : Bool) (H4 : Hp) => if b = true then te (σ.set k (some (V.int (lo + i)))) H4 (fun y H5 => ys.length < sizeLine ∧ ((σ.set k (some (V.int (lo + i))) = σ ∨ ∃ e, σ.set k (some (V.int (lo + i))) = σ.set k e) ∧ Pv (i + 1) (ys ++ [y]) H5)) else ((σ.set k (some (V.int (lo + i))) = σ ∨ ∃ e, σ.set k (some (V.int (lo + i))) = σ.set k e) ∧ Pv (i + 1) ys H4)) = fun b H4 => if b = true then te (σ.set k (some (V.int (lo + i)))) H4 fun y H5 => ys.length < sizeLine ∧ Pv (i + 1) (ys ++ [y]) H5 else Pv (i + 1) ys H4 := by
      funext b H4
      rw [e2]
      cases b
      · exact propext ⟨fun z => z.2, fun z => ⟨.inr ⟨_, rfl⟩, z⟩⟩
      · rfl
    rw [e3]
    exact hs i ys H2 hlt p
  · have e : i = n := by omega
    subst e
    exact .inl ⟨Nat.le_refl _, hd ys H' p⟩
theorem tcm_succ {rows : List (List Int)} {l b n : Nat} : tcm rows l b (n + 1) = tcm rows l b n ++ if (l : Int) ∈ rows.getD (b + n) [] then [n] else [] := by
  unfold tcm
  rw [List.range_succ, List.filter_append]
  congr 1
  by_cases h : (l : Int) ∈ rows.getD (b + n) []
  · rw [if_pos h, List.filter_cons, if_pos (by simpa using h)]; rfl
  · rw [if_neg h, List.filter_cons, if_neg (by simpa using h)]; rfl
theorem tcm_len {rows : List (List Int)} {l b n : Nat} : (tcm rows l b n).length ≤ n := Nat.le_trans (List.length_filter_le _ _) (by rw [List.length_range]; exact Nat.le_refl _)
theorem tcm_head {rows : List (List Int)} {l b n i : Nat} {r : List Nat} (h : tcm rows l b n = i :: r) : i < n := by
  have : i ∈ tcm rows l b n := by rw [h]; exact List.mem_cons_self
  exact List.mem_range.mp (List.mem_filter.mp this).1
theorem ite_var {c : Bool} {σ : L2.St} {H : Hp} {i j : Nat} {R : VK} {x y : V} (hx : σ[i]? = some (some x)) (hy : σ[j]? = some (some y)) (h : R (if c = true then x else y) H) : if c = true then tVar i σ H R else tVar j σ H R := by
  cases c
  · exact iteF ⟨_, hy, h⟩
  · exact iteT ⟨_, hx, h⟩
theorem lnN_eq {rows : List (List Int)} {a : Nat} {up : Bool} {u v : Int} (h : rows[a]? = some [u, v]) (hu : 0 ≤ u) (hv : 0 ≤ v) : (if up = true then V.int u else V.int v) = V.int (lnN rows a up : Nat) := by
  unfold lnN
  rw [show rows.getD a [] = [u, v] by rw [List.getD_eq_getElem?_getD, h]; rfl]
  cases up
  · show V.int v = V.int ((v.toNat : Nat) : Int)
    rw [Int.toNat_of_nonneg hv]
  · show V.int u = V.int ((u.toNat : Nat) : Int)
    rw [Int.toNat_of_nonneg hu]
end L3

namespace L3
open PySem PySem.Spec PyProof.Rows L2
def hf (u : Bool) (s : Nat) : Nat := if u = true then (s + 1) / 2 else s / 2
def cnt (toks : List (Option (Nat × Nat))) (l b : Nat) : Nat := toks.count (some (l, b))
def flow (k : Nat) (ups : List Bool) (toks : List (Option (Nat × Nat))) (y : Nat → Nat) : Nat → Nat → Nat
  | 0, x => y x + cnt toks x 0
  | j + 1, x => (if x = lnN (rowsT k) j true then hf (ups.getD j true) (flow k ups toks y j (lnN (rowsT k) j true) + flow k ups toks y j (lnN (rowsT k) j false))
      else if x = lnN (rowsT k) j false then hf (!(ups.getD j true)) (flow k ups toks y j (lnN (rowsT k) j true) + flow k ups toks y j (lnN (rowsT k) j false))
      else flow k ups toks y j x) + cnt toks x (j + 1)
theorem lnN_ne : ∀ k : Fin 4, ∀ j : Fin 24, j.val < (rowsT k.val).length → lnN (rowsT k.val) j.val true ≠ lnN (rowsT k.val) j.val false := by decide +kernel
section
variable {k : Nat} {ups ups' : List Bool} {toks toks' : List (Option (Nat × Nat))} {y : Nat → Nat} {l b J : Nat}
theorem flow_step {s : Nat} (hu : ups'.getD s true = ups.getD s true) (hA : flow k ups' toks' y s (lnN (rowsT k) s true) = flow k ups toks y s (lnN (rowsT k) s true)) (hB : flow k ups' toks' y s (lnN (rowsT k) s false) = flow k ups toks y s (lnN (rowsT k) s false)) {x : Nat} (hx : flow k ups' toks' y s x = flow k ups toks y s x) (hc : cnt toks' x (s + 1) = cnt toks x (s + 1)) :
    flow k ups' toks' y (s + 1) x = flow k ups toks y (s + 1) x := by
  unfold flow
  rw [hu, hA, hB, hx, hc]
theorem flow_pre (hup : ∀ s, s < J → ups'.getD s true = ups.getD s true) (hc : ∀ x s, s ≤ J → x ≠ l ∨ s ≠ b → cnt toks' x s = cnt toks x s) (hc1 : cnt toks' l b + 1 = cnt toks l b)
    (hno : ∀ s, b ≤ s → s < J → l ≠ lnN (rowsT k) s true ∧ l ≠ lnN (rowsT k) s false) : ∀ s, s ≤ J → (∀ x, x ≠ l ∨ s < b → flow k ups' toks' y s x = flow k ups toks y s x) ∧ (b ≤ s → flow k ups' toks' y s l + 1 = flow k ups toks y s l)
  | 0, hs => by
    refine ⟨fun x hx => ?_, fun hb => ?_⟩
    · show y x + cnt toks' x 0 = y x + cnt toks x 0
      rw [hc x 0 hs (hx.imp id fun z => by omega)]
    · have e : b = 0 := by omega
      subst e
      show y l + cnt toks' l 0 + 1 = y l + cnt toks l 0
      omega
  | s + 1, hs => by
    obtain ⟨i1, i2⟩ := flow_pre hup hc hc1 hno s (by omega)
    have hu := hup s (by omega)
    by_cases hb : b ≤ s
    · obtain ⟨nA, nB⟩ := hno s hb (by omega)
      have eA := i1 _ (.inl (Ne.symm nA))
      have eB := i1 _ (.inl (Ne.symm nB))
      refine ⟨fun x hx => ?_, fun _ => ?_⟩
      · have hx' : x ≠ l := hx.elim id fun z => by omega
        exact flow_step hu eA eB (i1 x (.inl hx')) (hc x (s + 1) hs (.inl hx'))
      · have h2 := i2 hb
        have h3 := hc l (s + 1) hs (.inr (by omega))
        show (if l = lnN (rowsT k) s true then _ else if l = lnN (rowsT k) s false then _ else flow k ups' toks' y s l) + cnt toks' l (s + 1) + 1 = (if l = lnN (rowsT k) s true then _ else if l = lnN (rowsT k) s false then _ else flow k ups toks y s l) + cnt toks l (s + 1)
        rw [if_neg nA, if_neg nB, if_neg nA, if_neg nB]
        omega
    · have eq : ∀ x, flow k ups' toks' y s x = flow k ups toks y s x := fun x => i1 x (.inr (by omega))
      refine ⟨fun x hx => flow_step hu (eq _) (eq _) (eq x) (hc x (s + 1) hs (hx.imp id fun z => by omega)), fun hb' => ?_⟩
      have e : b = s + 1 := by omega
      subst e
      unfold flow
      rw [hu, eq, eq, eq]
      omega
theorem flow_post {s0 : Nat} (h0 : ∀ x, flow k ups' toks' y s0 x = flow k ups toks y s0 x) (hup : ∀ s, s0 ≤ s → ups'.getD s true = ups.getD s true) (hc : ∀ x s, s0 < s → cnt toks' x s = cnt toks x s) : ∀ s, s0 ≤ s → ∀ x, flow k ups' toks' y s x = flow k ups toks y s x := by
  intro s hs
  obtain ⟨d, rfl⟩ := Nat.exists_eq_add_of_le hs
  clear hs
  induction d with
  | zero => exact h0
  | succ d ih => exact fun x => flow_step (hup _ (by omega)) (ih _) (ih _) (ih x) (hc x _ (by omega))
theorem hf_flip (S : Nat) : hf false S + 1 = hf true (S + 1) ∧ hf true S = hf false (S + 1) :=
  ⟨by show S / 2 + 1 = (S + 1 + 1) / 2; omega, rfl⟩
theorem flow_mid {up : Bool} (hne : lnN (rowsT k) J true ≠ lnN (rowsT k) J false) (hl : l = lnN (rowsT k) J true ∨ l = lnN (rowsT k) J false) (hu : ups.getD J true = up) (hu' : ups'.getD J true = !up)
    (h1 : ∀ x, x ≠ l → flow k ups' toks' y J x = flow k ups toks y J x) (h2 : flow k ups' toks' y J l + 1 = flow k ups toks y J l)
    (hc : ∀ x, x ≠ lnN (rowsT k) J up → cnt toks' x (J + 1) = cnt toks x (J + 1)) (hc1 : cnt toks' (lnN (rowsT k) J up) (J + 1) = cnt toks (lnN (rowsT k) J up) (J + 1) + 1) :
    ∀ x, flow k ups' toks' y (J + 1) x = flow k ups toks y (J + 1) x := by
  intro x
  have hS : flow k ups toks y J (lnN (rowsT k) J true) + flow k ups toks y J (lnN (rowsT k) J false) = flow k ups' toks' y J (lnN (rowsT k) J true) + flow k ups' toks' y J (lnN (rowsT k) J false) + 1 := by
    rcases hl with e | e
    · rw [← h1 (lnN (rowsT k) J false) (by rw [e]; exact Ne.symm hne), ← e]; omega
    · rw [← h1 (lnN (rowsT k) J true) (by rw [e]; exact hne), ← e]; omega
  unfold flow
  rw [hu, hu', hS]
  generalize flow k ups' toks' y J (lnN (rowsT k) J true) + flow k ups' toks' y J (lnN (rowsT k) J false) = S
  obtain ⟨f1, f2⟩ := hf_flip S
  by_cases hA : x = lnN (rowsT k) J true
  · rw [if_pos hA, if_pos hA]
    cases up with
    | true =>
      rw [hA, hc1]
      show hf false S + _ = hf true (S + 1) + _
      omega
    | false =>
      rw [hc x (by rw [hA]; exact hne)]
      show hf true S + _ = hf false (S + 1) + _
      omega
  · rw [if_neg hA, if_neg hA]
    by_cases hB : x = lnN (rowsT k) J false
    · rw [if_pos hB, if_pos hB]
      cases up with
      | true =>
        rw [hc x hA]
        show hf true S + _ = hf false (S + 1) + _
        omega
      | false =>
        rw [hB, hc1]
        show hf false S + _ = hf true (S + 1) + _
        omega
    · have hx : x ≠ l := fun e => hl.elim (fun z => hA (e.trans z)) fun z => hB (e.trans z)
      rw [if_neg hB, if_neg hB, h1 x hx, hc x (by cases up <;> assumption)]
end
end L3

namespace L3
open PySem PySem.Spec PyProof.Rows L2
theorem getD_lt {α : Type} {xs : List α} {i : Nat} {d : α} (h : i < xs.length) : xs.getD i d = xs[i] := by rw [List.getD_eq_getElem?_getD, List.getElem?_eq_getElem h]; rfl
theorem mem_row {k j l : Nat} (k3 : k ≤ 3) (hj : j < (rowsT k).length) : (l : Int) ∈ (rowsT k).getD j [] ↔ l = lnN (rowsT k) j true ∨ l = lnN (rowsT k) j false := by
  obtain ⟨h2, hx⟩ := (rowF k3).2 _ (List.getElem_mem hj)
  unfold lnN
  rw [getD_lt hj]
  generalize (rowsT k)[j] = r at h2 hx ⊢
  match r, h2 with
  | [u, v], _ =>
    have hu := hx u (by simp)
    have hv := hx v (by simp)
    show (l : Int) ∈ [u, v] ↔ l = u.toNat ∨ l = v.toNat
    simp only [List.mem_cons, List.not_mem_nil, or_false]
    omega
theorem tcm_no {rows : List (List Int)} {l b n : Nat} (h : tcm rows l b n = []) : ∀ i, i < n → (l : Int) ∉ rows.getD (b + i) [] := by
  intro i hi hm
  have : i ∈ tcm rows l b n := List.mem_filter.mpr ⟨List.mem_range.mpr hi, decide_eq_true hm⟩
  rw [h] at this; cases this
theorem tcm_yes {rows : List (List Int)} {l b : Nat} : ∀ {n i : Nat} {r : List Nat}, tcm rows l b n = i :: r → (l : Int) ∈ rows.getD (b + i) [] ∧ ∀ i', i' < i → (l : Int) ∉ rows.getD (b + i') []
  | 0, i, r, h => nomatch h
  | n + 1, i, r, h => by
    rw [tcm_succ] at h
    cases e : tcm rows l b n with
    | cons a q =>
      rw [e] at h
      cases (List.cons.inj h).1
      exact tcm_yes e
    | nil =>
      rw [e, List.nil_append] at h
      by_cases hm : (l : Int) ∈ rows.getD (b + n) []
      · rw [if_pos hm] at h
        cases h
        exact ⟨hm, tcm_no e⟩
      · rw [if_neg hm] at h; cases h
theorem cnt_set {toks : List (Option (Nat × Nat))} {t l b x s : Nat} {o : Option (Nat × Nat)} (h : toks[t]? = some (some (l, b))) : cnt (toks.set t o) x s + (if (l, b) = (x, s) then 1 else 0) = cnt toks x s + (if o = some (x, s) then 1 else 0) := by
  obtain ⟨ht, e⟩ := List.getElem?_eq_some_iff.mp h
  unfold cnt
  rw [List.count_set ht, e]
  have hp : (l, b) = (x, s) → 1 ≤ toks.count (some (x, s)) := fun z => by
    rw [← z]
    exact List.count_pos_iff.mpr (List.mem_of_getElem? h)
  by_cases h1 : (l, b) = (x, s)
  · have := hp h1
    rw [if_pos h1, if_pos (by rw [h1]; exact beq_self_eq_true _)]
    by_cases h2 : o = some (x, s)
    · rw [if_pos h2, if_pos (by rw [h2]; exact beq_self_eq_true _)]; omega
    · rw [if_neg h2, if_neg (by simpa using h2)]; omega
  · rw [if_neg h1, if_neg (by simpa using h1)]
    by_cases h2 : o = some (x, s)
    · rw [if_pos h2, if_pos (by rw [h2]; exact beq_self_eq_true _)]; omega
    · rw [if_neg h2, if_neg (by simpa using h2)]; omega
def wd (k n pl : Nat) : Nat := (n + 2 ^ k - 1 - pl) / 2 ^ k
def tot (k : Nat) (y : Nat → Nat) : Nat := ((List.range (2 ^ k)).map y).sum
def FI (k : Nat) (st : CSt) : Prop := ∀ y, st.toks.length + tot k y ≤ 40 → ∀ pl, pl < 2 ^ k → st.outs.getD pl 0 + flow k st.ups st.toks y (rowsT k).length ((lineR k).getD pl 0) = wd k (st.toks.length + tot k y) pl
theorem line_inj : ∀ k : Fin 4, ∀ p q : Fin 8, p.val < 2 ^ k.val → q.val < 2 ^ k.val → (lineR k.val).getD p.val 0 = (lineR k.val).getD q.val 0 → p = q := by decide +kernel
theorem line_at {k l : Nat} (k3 : k ≤ 3) (hl : l < 2 ^ k) : (lineR k).getD ((lineR k).idxOf l) 0 = l := by
  obtain ⟨h1, h2, h3⟩ := lineF' k3 hl
  rw [getD_lt (by omega)]
  exact List.getElem_idxOf (by omega)
theorem FI.go {k : Nat} {st : CSt} {t l b : Nat} (k3 : k ≤ 3) (ok : StOk k st) (ht : st.toks[t]? = some (some (l, b))) (h : FI k st) : FI k (goS k st t l b) := by
  obtain ⟨hl, hb⟩ := ok.t l b (List.mem_of_getElem? ht)
  have p8 := pow8 k3
  intro y hy pl hpl
  unfold goS at hy ⊢
  cases hk : tcm (rowsT k) l b ((rowsT k).length - b) with
  | nil =>
    rw [hk] at hy
    have hy' : (st.toks.set t none).length + tot k y ≤ 40 := hy
    rw [List.length_set] at hy'
    have e := h y hy' pl hpl
    have no := tcm_no hk
    show (st.outs.set ((lineR k).idxOf l) (st.outs.getD ((lineR k).idxOf l) 0 + 1)).getD pl 0 + flow k st.ups (st.toks.set t none) y (rowsT k).length ((lineR k).getD pl 0) = wd k ((st.toks.set t none).length + tot k y) pl
    rw [List.length_set, ← e]
    obtain ⟨f1, f2⟩ := flow_pre (k := k) (ups := st.ups) (ups' := st.ups) (toks := st.toks) (toks' := st.toks.set t none) (y := y) (l := l) (b := b) (J := (rowsT k).length) (fun _ _ => rfl)
      (fun x s _ hx => by
        have := cnt_set (x := x) (s := s) (o := none) ht
        rw [if_neg (fun z => by cases z; rcases hx with z | z <;> exact z rfl), if_neg (fun z => by cases z)] at this
        exact this)
      (by
        have := cnt_set (x := l) (s := b) (o := none) ht
        rw [if_pos rfl, if_neg (fun z => by cases z)] at this
        exact this)
      (fun s h1 h2 => by
        have := no (s - b) (by omega)
        rw [show b + (s - b) = s by omega, mem_row k3 h2] at this
        exact ⟨fun z => this (.inl z), fun z => this (.inr z)⟩) (rowsT k).length (Nat.le_refl _)
    obtain ⟨l1, l2, l3⟩ := lineF' k3 hl
    by_cases hp : pl = (lineR k).idxOf l
    · have hlo : pl < st.outs.length := by rw [ok.o]; exact hpl
      rw [← hp, getD_lt (by rw [List.length_set]; exact hlo), List.getElem_set_self]
      have f := f2 hb
      have e1 : (lineR k).getD pl 0 = l := by rw [hp]; exact line_at k3 hl
      rw [e1]; omega
    · have e1 : (lineR k).getD pl 0 ≠ l := fun z => hp (by
        have := line_inj ⟨k, by omega⟩ ⟨pl, by omega⟩ ⟨(lineR k).idxOf l, by omega⟩ hpl l3 (z.trans (line_at k3 hl).symm)
        exact congrArg Fin.val this)
      rw [f1 _ (.inl e1), List.getD_eq_getElem?_getD, List.getElem?_set_ne (Ne.symm hp), ← List.getD_eq_getElem?_getD]
  | cons i r =>
    rw [hk] at hy
    have hi := tcm_head hk
    obtain ⟨hm, no⟩ := tcm_yes hk
    have hJ : b + i < (rowsT k).length := by omega
    have hul : b + i < st.ups.length := by rw [ok.u]; exact hJ
    have hne : lnN (rowsT k) (b + i) true ≠ lnN (rowsT k) (b + i) false := lnN_ne ⟨k, by omega⟩ ⟨b + i, by have := (rowF k3).1; omega⟩ hJ
    show st.outs.getD pl 0 + flow k (st.ups.set (b + i) (!(st.ups.getD (b + i) true))) (st.toks.set t (some (lnN (rowsT k) (b + i) (st.ups.getD (b + i) true), b + i + 1))) y (rowsT k).length ((lineR k).getD pl 0) = wd k ((st.toks.set t (some (lnN (rowsT k) (b + i) (st.ups.getD (b + i) true), b + i + 1))).length + tot k y) pl
    have hy' : (st.toks.set t (some (lnN (rowsT k) (b + i) (st.ups.getD (b + i) true), b + i + 1))).length + tot k y ≤ 40 := hy
    rw [List.length_set] at hy' ⊢
    rw [← h y hy' pl hpl]
    congr 1
    have hcs := fun x s => cnt_set (x := x) (s := s) (o := some (lnN (rowsT k) (b + i) (st.ups.getD (b + i) true), b + i + 1)) ht
    have hsn : ∀ s, s ≠ b + i → (st.ups.set (b + i) (!(st.ups.getD (b + i) true))).getD s true = st.ups.getD s true := fun s hs => by
      rw [List.getD_eq_getElem?_getD, List.getElem?_set_ne (Ne.symm hs), ← List.getD_eq_getElem?_getD]
    obtain ⟨f1, f2⟩ := flow_pre (k := k) (ups := st.ups) (ups' := st.ups.set (b + i) (!(st.ups.getD (b + i) true))) (toks := st.toks) (toks' := st.toks.set t (some (lnN (rowsT k) (b + i) (st.ups.getD (b + i) true), b + i + 1))) (y := y) (l := l) (b := b) (J := b + i) (fun s hs => hsn s (by omega))
      (fun x s h1 hx => by
        have := hcs x s
        rw [if_neg (fun z => by cases z; rcases hx with z | z <;> exact z rfl), if_neg (fun z => by have := (Prod.mk.inj (Option.some.inj z)).2; omega)] at this
        exact this)
      (by
        have := hcs l b
        rw [if_pos rfl, if_neg (fun z => by have := (Prod.mk.inj (Option.some.inj z)).2; omega)] at this
        exact this)
      (fun s h1 h2 => by
        have := no (s - b) (by omega)
        rw [show b + (s - b) = s by omega, mem_row k3 (by omega)] at this
        exact ⟨fun z => this (.inl z), fun z => this (.inr z)⟩) (b + i) (Nat.le_refl _)
    refine flow_post (s0 := b + i + 1) ?_ (fun s hs => hsn s (by omega)) (fun x s hs => ?_) _ (by omega) _
    · refine flow_mid (up := st.ups.getD (b + i) true) hne ((mem_row k3 hJ).mp hm) rfl ?_ (fun x hx => f1 x (.inl hx)) (f2 (by omega)) (fun x hx => ?_) ?_
      · rw [getD_lt (by rw [List.length_set]; exact hul), List.getElem_set_self]
      · have := hcs x (b + i + 1)
        rw [if_neg (fun z => by have := (Prod.mk.inj z).2; omega), if_neg (fun z => hx (Prod.mk.inj (Option.some.inj z)).1.symm)] at this
        exact this
      · have := hcs (lnN (rowsT k) (b + i) (st.ups.getD (b + i) true)) (b + i + 1)
        rw [if_neg (fun z => by have := (Prod.mk.inj z).2; omega), if_pos rfl] at this
        exact this
    · have := hcs x s
      rw [if_neg (fun z => by have := (Prod.mk.inj z).2; omega), if_neg (fun z => by have := (Prod.mk.inj (Option.some.inj z)).2; omega)] at this
      exact this
theorem lnN_lt {k a : Nat} {up : Bool} (k3 : k ≤ 3) (h : a < (rowsT k).length) : lnN (rowsT k) a up < 2 ^ k := by
  obtain ⟨h2, hx⟩ := (rowF k3).2 _ (List.getElem_mem h)
  unfold lnN
  rw [show (rowsT k).getD a [] = (rowsT k)[a] by rw [List.getD_eq_getElem?_getD, List.getElem?_eq_getElem h]; rfl]
  generalize (rowsT k)[a] = r at h2 hx
  match r, h2 with
  | [u, v], _ =>
    have hu := hx u (by simp)
    have hv := hx v (by simp)
    cases up
    · show v.toNat < 2 ^ k; omega
    · show u.toNat < 2 ^ k; omega
theorem mem_set_or {α : Type} {xs : List α} {i : Nat} {a b : α} (h : a ∈ xs.set i b) : a = b ∨ a ∈ xs := by
  rcases List.mem_or_eq_of_mem_set h with h | h
  · exact .inr h
  · exact .inl h
theorem StOk.go {k : Nat} {st : CSt} {t l b : Nat} (k3 : k ≤ 3) (ok : StOk k st) (hb : b ≤ (rowsT k).length) : StOk k (goS k st t l b) := by
  unfold goS
  cases hk : tcm (rowsT k) l b ((rowsT k).length - b) with
  | nil =>
    refine ⟨ok.u, ?_, fun l' b' h => ?_⟩
    · show (st.outs.set _ _).length = _
      rw [List.length_set]; exact ok.o
    · rcases mem_set_or h with h | h
      · cases h
      · exact ok.t _ _ h
  | cons i r =>
    have hi := tcm_head hk
    refine ⟨?_, ok.o, fun l' b' h => ?_⟩
    · show (st.ups.set _ _).length = _
      rw [List.length_set]; exact ok.u
    · rcases mem_set_or h with h | h
      · cases h
        exact ⟨lnN_lt k3 (by omega), by omega⟩
      · exact ok.t _ _ h
theorem goS_len {k : Nat} {st : CSt} {t l b : Nat} : (goS k st t l b).toks.length = st.toks.length := by
  unfold goS
  cases (tcm (rowsT k) l b ((rowsT k).length - b)).head? with
  | none => show (st.toks.set _ _).length = _; rw [List.length_set]
  | some i => show (st.toks.set _ _).length = _; rw [List.length_set]
theorem cnt_add {toks : List (Option (Nat × Nat))} {l x s : Nat} : cnt (toks ++ [some (l, 0)]) x s = cnt toks x s + (if x = l ∧ s = 0 then 1 else 0) := by
  unfold cnt
  rw [List.count_append, List.count_singleton]
  congr 1
  by_cases h : x = l ∧ s = 0
  · rw [if_pos h, if_pos (by rw [h.1, h.2]; exact beq_self_eq_true _)]
  · rw [if_neg h, if_neg (fun z => h (by have := eq_of_beq z; cases this; exact ⟨rfl, rfl⟩))]
theorem flow_add {k : Nat} {ups : List Bool} {toks : List (Option (Nat × Nat))} {y : Nat → Nat} {l : Nat} : ∀ s x, flow k ups (toks ++ [some (l, 0)]) y s x = flow k ups toks (fun x => y x + if x = l then 1 else 0) s x
  | 0, x => by
    show y x + cnt (toks ++ [some (l, 0)]) x 0 = y x + (if x = l then 1 else 0) + cnt toks x 0
    rw [cnt_add]
    by_cases h : x = l
    · rw [if_pos ⟨h, rfl⟩, if_pos h]; omega
    · rw [if_neg (fun z => h z.1), if_neg h]; omega
  | s + 1, x => by
    unfold flow
    rw [flow_add s, flow_add s, flow_add s, cnt_add, if_neg (show ¬(x = l ∧ s + 1 = 0) from fun z => by have := z.2; omega)]
    rfl
theorem tot_add {y : Nat → Nat} {l : Nat} : ∀ n, ((List.range n).map fun x => y x + if x = l then 1 else 0).sum = ((List.range n).map y).sum + if l < n then 1 else 0
  | 0 => by rw [if_neg (by omega)]; rfl
  | n + 1 => by
    rw [List.range_succ, List.map_append, List.map_append, List.sum_append, List.sum_append, tot_add n]
    show _ + (y n + (if n = l then 1 else 0) + 0) = _ + (y n + 0) + _
    by_cases h : n = l
    · rw [if_pos h, if_neg (by omega), if_pos (by omega)]; omega
    · rw [if_neg h]
      by_cases h2 : l < n
      · rw [if_pos h2, if_pos (by omega)]; omega
      · rw [if_neg h2, if_neg (by omega)]; omega
theorem FI.come {k : Nat} {st : CSt} {l : Nat} (hl : l < 2 ^ k) (h : FI k st) : FI k ⟨st.ups, st.toks ++ [some (l, 0)], st.outs, st.gv⟩ := by
  intro y hy pl hpl
  have e0 : tot k (fun x => y x + if x = l then 1 else 0) = tot k y + 1 := by
    unfold tot
    rw [tot_add, if_pos hl]
  have e1 : (st.toks ++ [some (l, 0)]).length = st.toks.length + 1 := by rw [List.length_append]; rfl
  have hy' : (st.toks ++ [some (l, 0)]).length + tot k y ≤ 40 := hy
  have e := h (fun x => y x + if x = l then 1 else 0) (by rw [e0]; omega) pl hpl
  show st.outs.getD pl 0 + flow k st.ups (st.toks ++ [some (l, 0)]) y (rowsT k).length ((lineR k).getD pl 0) = wd k ((st.toks ++ [some (l, 0)]).length + tot k y) pl
  rw [flow_add, e, e0, e1]
  congr 1
  omega
def stpL (r : List Int) (L : List Nat) : List Nat := (L.set (r.getD 0 0).toNat ((L.getD (r.getD 0 0).toNat 0 + L.getD (r.getD 1 0).toNat 0 + 1) / 2)).set (r.getD 1 0).toNat ((L.getD (r.getD 0 0).toNat 0 + L.getD (r.getD 1 0).toNat 0) / 2)
def runL (rows : List (List Int)) (L : List Nat) : List Nat := rows.foldl (fun L r => stpL r L) L
theorem stpL_len {r : List Int} {L : List Nat} : (stpL r L).length = L.length := by unfold stpL; rw [List.length_set, List.length_set]
theorem runL_len : ∀ {rows : List (List Int)} {L : List Nat}, (runL rows L).length = L.length
  | [], _ => rfl
  | r :: rs, L => (runL_len (rows := rs) (L := stpL r L)).trans stpL_len
theorem flow_run {k : Nat} (k3 : k ≤ 3) {y : Nat → Nat} {n : Nat} : ∀ s, s ≤ (rowsT k).length → ∀ x, x < 2 ^ k → flow k (List.replicate n true) [] y s x = (runL ((rowsT k).take s) ((List.range (2 ^ k)).map y)).getD x 0
  | 0, _, x, hx => by
    show y x + 0 = ((List.range (2 ^ k)).map y).getD x 0
    rw [getD_lt (by rw [List.length_map, List.length_range]; exact hx), List.getElem_map, List.getElem_range]; rfl
  | s + 1, hs, x, hx => by
    have hj : s < (rowsT k).length := by omega
    have ih := flow_run k3 (y := y) (n := n) s (by omega)
    have e : (rowsT k).take (s + 1) = (rowsT k).take s ++ [(rowsT k)[s]] := List.take_succ_eq_append_getElem hj
    have er : ∀ L, runL ((rowsT k).take (s + 1)) L = stpL (rowsT k)[s] (runL ((rowsT k).take s) L) := fun L => by
      unfold runL; rw [e, List.foldl_append]; rfl
    rw [er]
    have hA := lnN_lt (up := true) k3 hj
    have hB := lnN_lt (up := false) k3 hj
    have hu : (List.replicate n true).getD s true = true := by
      rw [List.getD_eq_getElem?_getD, List.getElem?_replicate]
      split <;> rfl
    have hlen : (runL ((rowsT k).take s) ((List.range (2 ^ k)).map y)).length = 2 ^ k := by rw [runL_len, List.length_map, List.length_range]
    have hne : lnN (rowsT k) s true ≠ lnN (rowsT k) s false := lnN_ne ⟨k, by omega⟩ ⟨s, by have := (rowF k3).1; omega⟩ hj
    have eA : lnN (rowsT k) s true = ((rowsT k)[s].getD 0 0).toNat := by unfold lnN; rw [getD_lt hj]; rfl
    have eB : lnN (rowsT k) s false = ((rowsT k)[s].getD 1 0).toNat := by unfold lnN; rw [getD_lt hj]; rfl
    unfold flow
    rw [hu, ih _ hA, ih _ hB, ih x hx]
    unfold stpL
    rw [← eA, ← eB]
    generalize runL ((rowsT k).take s) ((List.range (2 ^ k)).map y) = L at hlen ⊢
    generalize lnN (rowsT k) s true = A at hA hne ⊢
    generalize lnN (rowsT k) s false = B at hB hne ⊢
    show (if x = A then (L.getD A 0 + L.getD B 0 + 1) / 2 else if x = B then (L.getD A 0 + L.getD B 0) / 2 else L.getD x 0) + 0 = _
    rw [Nat.add_zero, List.getD_eq_getElem?_getD (l := (L.set A _).set B _)]
    by_cases h1 : x = A
    · subst h1
      rw [if_pos rfl, List.getElem?_set_ne (Ne.symm hne), List.getElem?_set_self (by omega)]; rfl
    · rw [if_neg h1]
      by_cases h2 : x = B
      · subst h2
        rw [if_pos rfl, List.getElem?_set_self (by rw [List.length_set]; omega)]; rfl
      · rw [if_neg h2, List.getElem?_set_ne (Ne.symm h2), List.getElem?_set_ne (Ne.symm h1), ← List.getD_eq_getElem?_getD]
def lay2 (n : Nat) : List Nat := [(n + 3) / 4, (n + 2) / 4, n / 4, (n + 1) / 4]
def lay3 (n : Nat) : List Nat := [(n + 7) / 8, (n + 6) / 8, (n + 4) / 8, (n + 5) / 8, n / 8, (n + 1) / 8, (n + 3) / 8, (n + 2) / 8]
def runP (ps : List (Nat × Nat)) (L : List Nat) : List Nat := ps.foldl (fun L p => (L.set p.1 ((L.getD p.1 0 + L.getD p.2 0 + 1) / 2)).set p.2 ((L.getD p.1 0 + L.getD p.2 0) / 2)) L
theorem runL_P : ∀ {ps : List (Nat × Nat)} {L : List Nat}, runL (ps.map fun p => [(p.1 : Int), (p.2 : Int)]) L = runP ps L
  | [], _ => rfl
  | p :: ps, L => runL_P (ps := ps) (L := (L.set p.1 ((L.getD p.1 0 + L.getD p.2 0 + 1) / 2)).set p.2 ((L.getD p.1 0 + L.getD p.2 0) / 2))
def pm2 : List (Nat × Nat) := [(0, 3), (1, 2), (0, 1), (3, 2)]
def pm3 : List (Nat × Nat) := [(0, 6), (3, 5), (0, 3), (6, 5), (1, 7), (2, 4), (1, 2), (7, 4), (0, 1), (3, 2), (6, 7), (5, 4)]
theorem pm2_eq : (rowsT 2).drop 2 = pm2.map fun p => [(p.1 : Int), (p.2 : Int)] := by decide +kernel
theorem pm3_eq : (rowsT 3).drop 12 = pm3.map fun p => [(p.1 : Int), (p.2 : Int)] := by decide +kernel
def ok2 (a b : Nat) : Bool := runP pm2 [(a + 1) / 2, a / 2, (b + 1) / 2, b / 2] == lay2 (a + b)
def ok3 (a b : Nat) : Bool := runP pm3 (lay2 a ++ lay2 b) == lay3 (a + b)
def ckR (f : Nat → Nat → Bool) (r : Nat) : Bool := (List.range 6).all fun q => (List.range (41 - (8 * q + r))).all fun b => f (8 * q + r) b
theorem ckR_of {f : Nat → Nat → Bool} (h : ∀ r, r < 8 → ckR f r = true) {a b : Nat} (hs : a + b ≤ 40) : f a b = true := by
  have h1 := h (a % 8) (Nat.mod_lt _ (by decide))
  have e : 8 * (a / 8) + a % 8 = a := Nat.div_add_mod a 8
  have h2 := List.all_eq_true.mp h1 (a / 8) (List.mem_range.mpr (by omega))
  rw [e] at h2
  exact List.all_eq_true.mp h2 b (List.mem_range.mpr (by omega))
theorem ck20 : ckR ok2 0 = true := by decide +kernel
theorem ck21 : ckR ok2 1 = true := by decide +kernel
theorem ck22 : ckR ok2 2 = true := by decide +kernel
theorem ck23 : ckR ok2 3 = true := by decide +kernel
theorem ck24 : ckR ok2 4 = true := by decide +kernel
theorem ck25 : ckR ok2 5 = true := by decide +kernel
theorem ck26 : ckR ok2 6 = true := by decide +kernel
theorem ck27 : ckR ok2 7 = true := by decide +kernel
theorem ck2 : ∀ r, r < 8 → ckR ok2 r = true
  | 0, _ => ck20
  | 1, _ => ck21
  | 2, _ => ck22
  | 3, _ => ck23
  | 4, _ => ck24
  | 5, _ => ck25
  | 6, _ => ck26
  | 7, _ => ck27
  | n + 8, h => absurd h (by omega)
theorem ck30 : ckR ok3 0 = true := by decide +kernel
theorem ck31 : ckR ok3 1 = true := by decide +kernel
theorem ck32 : ckR ok3 2 = true := by decide +kernel
theorem ck33 : ckR ok3 3 = true := by decide +kernel
theorem ck34 : ckR ok3 4 = true := by decide +kernel
theorem ck35 : ckR ok3 5 = true := by decide +kernel
theorem ck36 : ckR ok3 6 = true := by decide +kernel
theorem ck37 : ckR ok3 7 = true := by decide +kernel
theorem ck3 : ∀ r, r < 8 → ckR ok3 r = true
  | 0, _ => ck30
  | 1, _ => ck31
  | 2, _ => ck32
  | 3, _ => ck33
  | 4, _ => ck34
  | 5, _ => ck35
  | 6, _ => ck36
  | 7, _ => ck37
  | n + 8, h => absurd h (by omega)
theorem mrg2 {a b : Nat} (hs : a + b ≤ 40) : runL ((rowsT 2).drop 2) [(a + 1) / 2, a / 2, (b + 1) / 2, b / 2] = lay2 (a + b) := by
  rw [pm2_eq, runL_P]
  exact eq_of_beq (ckR_of ck2 hs)
theorem mrg3 {a b : Nat} (hs : a + b ≤ 40) : runL ((rowsT 3).drop 12) (lay2 a ++ lay2 b) = lay3 (a + b) := by
  rw [pm3_eq, runL_P]
  exact eq_of_beq (ckR_of ck3 hs)
theorem runT2 {a b c d : Nat} (h : a + b + c + d ≤ 40) : runL (rowsT 2) [a, b, c, d] = lay2 (a + b + c + d) := by
  have e := mrg2 (a := a + b) (b := c + d) (by omega)
  rw [show a + b + c + d = a + b + (c + d) by omega]
  exact e
theorem runP_left : ∀ {ps : List (Nat × Nat)} {L M : List Nat}, (∀ p ∈ ps, p.1 < L.length ∧ p.2 < L.length) → runP ps (L ++ M) = runP ps L ++ M
  | [], _, _, _ => rfl
  | p :: ps, L, M, h => by
    obtain ⟨h1, h2⟩ := h p (by simp)
    have g1 : (L ++ M).getD p.1 0 = L.getD p.1 0 := by rw [List.getD_eq_getElem?_getD, List.getElem?_append_left h1, ← List.getD_eq_getElem?_getD]
    have g2 : (L ++ M).getD p.2 0 = L.getD p.2 0 := by rw [List.getD_eq_getElem?_getD, List.getElem?_append_left h2, ← List.getD_eq_getElem?_getD]
    show runP ps (((L ++ M).set p.1 (((L ++ M).getD p.1 0 + (L ++ M).getD p.2 0 + 1) / 2)).set p.2 (((L ++ M).getD p.1 0 + (L ++ M).getD p.2 0) / 2)) = runP ps ((L.set p.1 ((L.getD p.1 0 + L.getD p.2 0 + 1) / 2)).set p.2 ((L.getD p.1 0 + L.getD p.2 0) / 2)) ++ M
    rw [g1, g2, List.set_append_left _ _ h1, List.set_append_left _ _ (by rw [List.length_set]; exact h2)]
    exact runP_left fun q hq => by rw [List.length_set, List.length_set]; exact h q (List.mem_cons_of_mem _ hq)
theorem runP_right : ∀ {ps : List (Nat × Nat)} {L M : List Nat}, runP (ps.map fun p => (L.length + p.1, L.length + p.2)) (L ++ M) = L ++ runP ps M
  | [], _, _ => rfl
  | p :: ps, L, M => by
    have g1 : (L ++ M).getD (L.length + p.1) 0 = M.getD p.1 0 := by rw [List.getD_eq_getElem?_getD, List.getElem?_append_right (by omega), Nat.add_sub_cancel_left, ← List.getD_eq_getElem?_getD]
    have g2 : (L ++ M).getD (L.length + p.2) 0 = M.getD p.2 0 := by rw [List.getD_eq_getElem?_getD, List.getElem?_append_right (by omega), Nat.add_sub_cancel_left, ← List.getD_eq_getElem?_getD]
    show runP (ps.map fun p => (L.length + p.1, L.length + p.2)) (((L ++ M).set (L.length + p.1) (((L ++ M).getD (L.length + p.1) 0 + (L ++ M).getD (L.length + p.2) 0 + 1) / 2)).set (L.length + p.2) (((L ++ M).getD (L.length + p.1) 0 + (L ++ M).getD (L.length + p.2) 0) / 2)) = L ++ runP ps ((M.set p.1 ((M.getD p.1 0 + M.getD p.2 0 + 1) / 2)).set p.2 ((M.getD p.1 0 + M.getD p.2 0) / 2))
    rw [g1, g2, List.set_append_right _ _ (by omega), List.set_append_right _ _ (by omega), Nat.add_sub_cancel_left, Nat.add_sub_cancel_left]
    exact runP_right
def pr2 : List (Nat × Nat) := [(0, 1), (2, 3), (0, 3), (1, 2), (0, 1), (3, 2)]
theorem pr2_eq : rowsT 2 = pr2.map fun p => [(p.1 : Int), (p.2 : Int)] := by decide +kernel
theorem pr3_eq : rowsT 3 = (pr2 ++ (pr2.map (fun p : Nat × Nat => (4 + p.1, 4 + p.2)) ++ pm3)).map fun p : Nat × Nat => [(p.1 : Int), (p.2 : Int)] := by decide +kernel
theorem runT3 {a b c d e f g h : Nat} (hs : a + b + c + d + e + f + g + h ≤ 40) : runL (rowsT 3) [a, b, c, d, e, f, g, h] = lay3 (a + b + c + d + e + f + g + h) := by
  have e1 := runT2 (a := a) (b := b) (c := c) (d := d) (by omega)
  have e2 := runT2 (a := e) (b := f) (c := g) (d := h) (by omega)
  have e3 := mrg3 (a := a + b + c + d) (b := e + f + g + h) (by omega)
  rw [show a + b + c + d + e + f + g + h = a + b + c + d + (e + f + g + h) by omega, ← e3, pm3_eq, runL_P, pr3_eq, runL_P]
  rw [pr2_eq, runL_P] at e1 e2
  have s1 : runP pr2 [a, b, c, d, e, f, g, h] = lay2 (a + b + c + d) ++ [e, f, g, h] := by
    rw [← e1]
    exact runP_left (ps := pr2) (L := [a, b, c, d]) (M := [e, f, g, h]) (by show ∀ p ∈ pr2, p.1 < 4 ∧ p.2 < 4; decide)
  have s2 : runP (pr2.map (fun p => (4 + p.1, 4 + p.2))) (lay2 (a + b + c + d) ++ [e, f, g, h]) = lay2 (a + b + c + d) ++ lay2 (e + f + g + h) := by
    rw [← e2]
    exact runP_right (ps := pr2) (L := lay2 (a + b + c + d)) (M := [e, f, g, h])
  rw [← s2, ← s1]
  unfold runP
  rw [List.foldl_append, List.foldl_append]
theorem FI.base {k : Nat} (k3 : k ≤ 3) : FI k ⟨List.replicate (rowsT k).length true, [], List.replicate (2 ^ k) 0, []⟩ := by
  intro y hy pl hpl
  have hy' : 0 + tot k y ≤ 40 := hy
  show (List.replicate (2 ^ k) 0).getD pl 0 + flow k (List.replicate (rowsT k).length true) [] y (rowsT k).length ((lineR k).getD pl 0) = wd k (0 + tot k y) pl
  have hz : (List.replicate (2 ^ k) 0).getD pl 0 = 0 := by rw [getD_lt (by rw [List.length_replicate]; exact hpl), List.getElem_replicate]
  have hlt : (lineR k).getD pl 0 < 2 ^ k := by
    have : ∀ k : Fin 4, ∀ p : Fin 8, p.val < 2 ^ k.val → (lineR k.val).getD p.val 0 < 2 ^ k.val := by decide +kernel
    exact this ⟨k, by omega⟩ ⟨pl, by have := pow8 k3; omega⟩ hpl
  rw [hz, flow_run k3 _ (Nat.le_refl _) _ hlt, List.take_length, Nat.zero_add, Nat.zero_add]
  rw [Nat.zero_add] at hy'
  clear hy hz
  unfold tot at hy' ⊢
  match k, k3 with
  | 0, _ =>
    have : pl = 0 := by have : pl < 1 := hpl; omega
    subst this
    show y 0 = (y 0 + 0 + 1 - 1 - 0) / 1
    omega
  | 1, _ =>
    have hp2 : pl < 2 := hpl
    match pl, hp2 with
    | 0, _ => show (y 0 + y 1 + 1) / 2 = (y 0 + (y 1 + 0) + 2 - 1 - 0) / 2; omega
    | 1, _ => show (y 0 + y 1) / 2 = (y 0 + (y 1 + 0) + 2 - 1 - 1) / 2; omega
  | 2, _ =>
    have hs : y 0 + (y 1 + (y 2 + (y 3 + 0))) ≤ 40 := hy'
    have e : runL (rowsT 2) ((List.range (2 ^ 2)).map y) = lay2 (y 0 + y 1 + y 2 + y 3) := runT2 (a := y 0) (b := y 1) (c := y 2) (d := y 3) (by omega)
    rw [e]
    have hp2 : pl < 4 := hpl
    match pl, hp2 with
    | 0, _ => show (y 0 + y 1 + y 2 + y 3 + 3) / 4 = (y 0 + (y 1 + (y 2 + (y 3 + 0))) + 4 - 1 - 0) / 4; congr 1; omega
    | 1, _ => show (y 0 + y 1 + y 2 + y 3 + 2) / 4 = (y 0 + (y 1 + (y 2 + (y 3 + 0))) + 4 - 1 - 1) / 4; congr 1; omega
    | 2, _ => show (y 0 + y 1 + y 2 + y 3 + 1) / 4 = (y 0 + (y 1 + (y 2 + (y 3 + 0))) + 4 - 1 - 2) / 4; congr 1; omega
    | 3, _ => show (y 0 + y 1 + y 2 + y 3) / 4 = (y 0 + (y 1 + (y 2 + (y 3 + 0))) + 4 - 1 - 3) / 4; congr 1; omega
  | 3, _ =>
    have hs : y 0 + (y 1 + (y 2 + (y 3 + (y 4 + (y 5 + (y 6 + (y 7 + 0))))))) ≤ 40 := hy'
    have e : runL (rowsT 3) ((List.range (2 ^ 3)).map y) = lay3 (y 0 + y 1 + y 2 + y 3 + y 4 + y 5 + y 6 + y 7) := runT3 (a := y 0) (b := y 1) (c := y 2) (d := y 3) (e := y 4) (f := y 5) (g := y 6) (h := y 7) (by omega)
    rw [e]
    have hE : y 0 + (y 1 + (y 2 + (y 3 + (y 4 + (y 5 + (y 6 + (y 7 + 0))))))) = y 0 + y 1 + y 2 + y 3 + y 4 + y 5 + y 6 + y 7 := by omega
    show _ = (y 0 + (y 1 + (y 2 + (y 3 + (y 4 + (y 5 + (y 6 + (y 7 + 0))))))) + 8 - 1 - pl) / 8
    rw [hE]
    generalize y 0 + y 1 + y 2 + y 3 + y 4 + y 5 + y 6 + y 7 = N
    have hp2 : pl < 8 := hpl
    match pl, hp2 with
    | 0, _ => show (N + 7) / 8 = (N + 8 - 1 - 0) / 8; congr 1
    | 1, _ => show (N + 6) / 8 = (N + 8 - 1 - 1) / 8; congr 1
    | 2, _ => show (N + 5) / 8 = (N + 8 - 1 - 2) / 8; congr 1
    | 3, _ => show (N + 4) / 8 = (N + 8 - 1 - 3) / 8; congr 1
    | 4, _ => show (N + 3) / 8 = (N + 8 - 1 - 4) / 8; congr 1
    | 5, _ => show (N + 2) / 8 = (N + 8 - 1 - 5) / 8; congr 1
    | 6, _ => show (N + 1) / 8 = (N + 8 - 1 - 6) / 8; congr 1
    | 7, _ => show N / 8 = (N + 8 - 1 - 7) / 8; congr 1
end L3

namespace L3
open PySem PySem.Spec PyProof.Rows L2
def lft (k : Nat) : Nat → Nat → Nat → Bool
  | 0, l, b => (tcm (rowsT k) l b ((rowsT k).length - b)).isEmpty
  | n + 1, l, b => match (tcm (rowsT k) l b ((rowsT k).length - b)).head? with
    | none => true
    | some i => lft k n (lnN (rowsT k) (b + i) true) (b + i + 1) && lft k n (lnN (rowsT k) (b + i) false) (b + i + 1)
theorem lft_step {k n l b i : Nat} {up : Bool} (h : lft k (n + 1) l b = true) (hh : (tcm (rowsT k) l b ((rowsT k).length - b)).head? = some i) : lft k n (lnN (rowsT k) (b + i) up) (b + i + 1) = true := by
  unfold lft at h
  rw [hh] at h
  have h' := Bool.and_eq_true_iff.mp h
  cases up
  · exact h'.2
  · exact h'.1
theorem lft_zero {k l b : Nat} (h : lft k 0 l b = true) : (tcm (rowsT k) l b ((rowsT k).length - b)).head? = none := by
  unfold lft at h
  rw [List.isEmpty_iff.mp h]; rfl
theorem lft_mono {k : Nat} : ∀ {n l b : Nat}, lft k n l b = true → lft k (n + 1) l b = true
  | 0, l, b, h => by
    unfold lft
    rw [lft_zero h]
  | n + 1, l, b, h => by
    unfold lft
    cases hh : (tcm (rowsT k) l b ((rowsT k).length - b)).head? with
    | none => rfl
    | some i =>
      show (lft k (n + 1) _ _ && lft k (n + 1) _ _) = true
      rw [lft_mono (lft_step (up := true) h hh), lft_mono (lft_step (up := false) h hh)]; rfl
theorem lft_first : ∀ k : Fin 4, ∀ l : Fin 8, l.val < 2 ^ k.val → lft k.val 6 l.val 0 = true := by decide +kernel
def goO (k : Nat) (st : CSt) (l b : Nat) : Option Nat := match (tcm (rowsT k) l b ((rowsT k).length - b)).head? with
  | some _ => none
  | none => some (outN k st l)
def oV : Option Nat → V
  | none => .non
  | some n => .int n
structure Good86 (k : Nat) (st : CSt) (fnd : List (Option Nat)) : Prop where
  ok : StOk k st
  fi : FI k st
  ln : fnd.length = st.toks.length
  l40 : st.toks.length ≤ 40
  rl : ∀ t : Nat, t < fnd.length → (fnd.getD t none = none ↔ ∃ l b, st.toks[t]? = some (some (l, b)))
  pm : (fnd.filterMap id).Perm st.gv
  cn : ∀ pl, pl < 2 ^ k → (st.gv.filter fun n => n % 2 ^ k == pl).length = st.outs.getD pl 0
  bd : ∀ n ∈ st.gv, n < st.toks.length ∧ n / 2 ^ k < st.outs.getD (n % 2 ^ k) 0
  nd : st.gv.Nodup
  lf : ∀ t l b : Nat, st.toks[t]? = some (some (l, b)) → lft k 6 l b = true
theorem tot_zero {k : Nat} : tot k (fun _ => 0) = 0 := by
  unfold tot
  induction 2 ^ k with
  | zero => rfl
  | succ n ih => rw [List.range_succ, List.map_append, List.sum_append, ih]; rfl
theorem FI.outs {k : Nat} {st : CSt} (h : FI k st) (l40 : st.toks.length ≤ 40) {pl : Nat} (hpl : pl < 2 ^ k) : st.outs.getD pl 0 ≤ wd k st.toks.length pl := by
  have := h (fun _ => 0) (by rw [tot_zero]; exact l40) pl hpl
  rw [tot_zero, Nat.add_zero] at this
  omega
theorem wd_le {k n pl c : Nat} (hpl : pl < 2 ^ k) (h : c + 1 ≤ wd k n pl) : c * 2 ^ k + pl < n := by
  unfold wd at h
  have := (Nat.le_div_iff_mul_le (Nat.two_pow_pos k)).mp h
  rw [Nat.add_mul] at this
  omega
theorem perm_fset {fnd : List (Option Nat)} {n : Nat} : ∀ {t : Nat}, fnd[t]? = some none → ((fnd.set t (some n)).filterMap id).Perm (fnd.filterMap id ++ [n]) := by
  induction fnd with
  | nil => intro t h; cases h
  | cons o r ih =>
    intro t h
    cases t with
    | zero =>
      have e : o = none := Option.some.inj h
      subst e
      show (n :: r.filterMap id).Perm (r.filterMap id ++ [n])
      exact (List.perm_append_singleton n _).symm
    | succ t =>
      have ih' := ih (t := t) h
      cases o with
      | none => exact ih'
      | some m => exact ih'.cons m
theorem set_same {α : Type} {xs : List α} {t : Nat} {a : α} (h : xs[t]? = some a) : xs.set t a = xs := by
  obtain ⟨ht, e⟩ := List.getElem?_eq_some_iff.mp h
  rw [← e]; exact List.set_getElem_self ht
section
variable {k : Nat} {st : CSt} {fnd : List (Option Nat)}
theorem Good86.base (k3 : k ≤ 3) : Good86 k ⟨List.replicate (rowsT k).length true, [], List.replicate (2 ^ k) 0, []⟩ [] := by
  refine ⟨⟨List.length_replicate, List.length_replicate, fun l b h => (nomatch h)⟩, FI.base k3, rfl, Nat.zero_le _, fun t ht => absurd ht (Nat.not_lt_zero _), List.Perm.refl _, fun pl hpl => ?_, fun n h => (nomatch h), List.nodup_nil, fun t l b h => (nomatch h)⟩
  show 0 = (List.replicate (2 ^ k) 0).getD pl 0
  rw [getD_lt (by rw [List.length_replicate]; exact hpl), List.getElem_replicate]
theorem Good86.come {l : Nat} (k3 : k ≤ 3) (g : Good86 k st fnd) (hl : l < 2 ^ k) (h40 : st.toks.length < 40) : Good86 k ⟨st.ups, st.toks ++ [some (l, 0)], st.outs, st.gv⟩ (fnd ++ [none]) := by
  have e1 : (st.toks ++ [some (l, 0)]).length = st.toks.length + 1 := by rw [List.length_append]; rfl
  have e2 : (fnd ++ [none]).length = st.toks.length + 1 := by rw [List.length_append, g.ln]; rfl
  refine ⟨⟨g.ok.u, g.ok.o, fun l' b' h => ?_⟩, g.fi.come hl, by rw [e2]; exact e1.symm, by show (st.toks ++ [some (l, 0)]).length ≤ 40; omega, fun t ht => ?_, ?_, g.cn, fun n hn => ?_, g.nd, fun t l' b' h => ?_⟩
  · rcases List.mem_append.mp h with h | h
    · exact g.ok.t _ _ h
    · cases List.mem_singleton.mp h
      exact ⟨hl, Nat.zero_le _⟩
  · show (fnd ++ [none]).getD t none = none ↔ ∃ l' b', (st.toks ++ [some (l, 0)])[t]? = some (some (l', b'))
    rw [e2] at ht
    by_cases htl : t < st.toks.length
    · rw [List.getElem?_append_left htl, List.getD_eq_getElem?_getD, List.getElem?_append_left (by rw [g.ln]; exact htl), ← List.getD_eq_getElem?_getD]
      exact g.rl t (by rw [g.ln]; exact htl)
    · have e : t = st.toks.length := by omega
      subst e
      rw [List.getElem?_concat_length, List.getD_eq_getElem?_getD, ← g.ln, List.getElem?_concat_length]
      exact ⟨fun _ => ⟨l, 0, rfl⟩, fun _ => rfl⟩
  · rw [List.filterMap_append]
    show (fnd.filterMap id ++ []).Perm st.gv
    rw [List.append_nil]; exact g.pm
  · show n < (st.toks ++ [some (l, 0)]).length ∧ _
    have := g.bd n hn
    exact ⟨by omega, this.2⟩
  · have h' : (st.toks ++ [some (l, 0)])[t]? = some (some (l', b')) := h
    by_cases htl : t < st.toks.length
    · rw [List.getElem?_append_left htl] at h'
      exact g.lf t l' b' h'
    · have htl' : t < (st.toks ++ [some (l, 0)]).length := (List.getElem?_eq_some_iff.mp h').1
      have e : t = st.toks.length := by omega
      subst e
      rw [List.getElem?_concat_length] at h'
      cases h'
      exact lft_first ⟨k, by omega⟩ ⟨l, by have := pow8 k3; omega⟩ hl
theorem Good86.fnone {t l b : Nat} (g : Good86 k st fnd) (ht : st.toks[t]? = some (some (l, b))) : fnd[t]? = some none := by
  have htl : t < st.toks.length := (List.getElem?_eq_some_iff.mp ht).1
  have htf : t < fnd.length := by rw [g.ln]; exact htl
  have := (g.rl t htf).mpr ⟨l, b, ht⟩
  rw [getD_lt htf] at this
  rw [List.getElem?_eq_getElem htf, this]
theorem Good86.go {t l b : Nat} (k3 : k ≤ 3) (g : Good86 k st fnd) (ht : st.toks[t]? = some (some (l, b))) : Good86 k (goS k st t l b) (fnd.set t (goO k st l b)) := by
  have htl : t < st.toks.length := (List.getElem?_eq_some_iff.mp ht).1
  have htf : t < fnd.length := by rw [g.ln]; exact htl
  have hfn := g.fnone ht
  obtain ⟨hl, hb⟩ := g.ok.t l b (List.mem_of_getElem? ht)
  have ok' := StOk.go (t := t) (l := l) k3 g.ok hb
  have fi' := g.fi.go k3 g.ok ht
  have hlen := goS_len (k := k) (st := st) (t := t) (l := l) (b := b)
  have hlf : (fnd.set t (goO k st l b)).length = (goS k st t l b).toks.length := by rw [List.length_set, hlen]; exact g.ln
  have hl40 : (goS k st t l b).toks.length ≤ 40 := by rw [hlen]; exact g.l40
  cases hh : (tcm (rowsT k) l b ((rowsT k).length - b)).head? with
  | some i =>
    have eS : goS k st t l b = ⟨st.ups.set (b + i) (!(st.ups.getD (b + i) true)), st.toks.set t (some (lnN (rowsT k) (b + i) (st.ups.getD (b + i) true), b + i + 1)), st.outs, st.gv⟩ := by unfold goS; rw [hh]
    have eO : goO k st l b = none := by unfold goO; rw [hh]
    rw [eS, eO] at hlf
    rw [eS] at ok' fi' hl40
    rw [eS, eO]
    rw [set_same hfn] at hlf ⊢
    refine ⟨ok', fi', hlf, hl40, fun t' h' => ?_, g.pm, g.cn, fun n hn => ?_, g.nd, fun t' l' b' h' => ?_⟩
    · by_cases e : t = t'
      · subst e
        exact ⟨fun _ => ⟨_, _, List.getElem?_set_self htl⟩, fun _ => (g.rl t h').mpr ⟨l, b, ht⟩⟩
      · have e2 : (st.toks.set t (some (lnN (rowsT k) (b + i) (st.ups.getD (b + i) true), b + i + 1)))[t']? = st.toks[t']? := List.getElem?_set_ne e
        show fnd.getD t' none = none ↔ ∃ l' b', (st.toks.set t (some (lnN (rowsT k) (b + i) (st.ups.getD (b + i) true), b + i + 1)))[t']? = some (some (l', b'))
        rw [e2]
        exact g.rl t' h'
    · show n < (st.toks.set t _).length ∧ _
      rw [List.length_set]; exact g.bd n hn
    · have h2 : (st.toks.set t (some (lnN (rowsT k) (b + i) (st.ups.getD (b + i) true), b + i + 1)))[t']? = some (some (l', b')) := h'
      by_cases e : t = t'
      · subst e
        rw [List.getElem?_set_self htl] at h2
        cases h2
        exact lft_mono (lft_step (n := 5) (g.lf t l b ht) hh)
      · rw [List.getElem?_set_ne e] at h2
        exact g.lf t' l' b' h2
  | none =>
    have eS : goS k st t l b = outS k st t l := by unfold goS; rw [hh]
    have eO : goO k st l b = some (outN k st l) := by unfold goO; rw [hh]
    rw [eS, eO] at hlf
    rw [eS] at ok' fi' hl40
    rw [eS, eO]
    obtain ⟨l1, l2, l3⟩ := lineF' k3 hl
    have hjo : (lineR k).idxOf l < st.outs.length := by rw [g.ok.o]; exact l3
    have w0 := Nat.two_pow_pos k
    have hj' : (outS k st t l).outs.getD ((lineR k).idxOf l) 0 = st.outs.getD ((lineR k).idxOf l) 0 + 1 := by
      show (st.outs.set _ _).getD _ 0 = _
      rw [getD_lt (by rw [List.length_set]; exact hjo), List.getElem_set_self]
    have hoth : ∀ pl, pl ≠ (lineR k).idxOf l → (outS k st t l).outs.getD pl 0 = st.outs.getD pl 0 := fun pl hp => by
      show (st.outs.set _ _).getD _ 0 = _
      rw [List.getD_eq_getElem?_getD, List.getElem?_set_ne (Ne.symm hp), ← List.getD_eq_getElem?_getD]
    have hN1 : outN k st l / 2 ^ k = st.outs.getD ((lineR k).idxOf l) 0 := by
      unfold outN
      rw [Nat.mul_comm, Nat.mul_add_div w0, Nat.div_eq_of_lt l3, Nat.add_zero]
    have hN2 : outN k st l % 2 ^ k = (lineR k).idxOf l := by
      unfold outN
      rw [Nat.mul_comm, Nat.mul_add_mod, Nat.mod_eq_of_lt l3]
    have hbig : outN k st l < st.toks.length := by
      have h1 := FI.outs fi' hl40 l3
      have h2 : (outS k st t l).toks.length = st.toks.length := by show (st.toks.set t none).length = _; rw [List.length_set]
      rw [hj', h2] at h1
      exact wd_le l3 h1
    refine ⟨ok', fi', hlf, hl40, fun t' h' => ?_, ?_, fun pl hpl => ?_, fun n hn => ?_, ?_, fun t' l' b' h' => ?_⟩
    · rw [List.length_set] at h'
      show (fnd.set t (some (outN k st l))).getD t' none = none ↔ ∃ l' b', (st.toks.set t none)[t']? = some (some (l', b'))
      rw [List.getD_eq_getElem?_getD]
      by_cases e : t = t'
      · subst e
        rw [List.getElem?_set_self htl, List.getElem?_set_self htf]
        exact ⟨fun z => (nomatch z), fun ⟨_, _, z⟩ => by cases Option.some.inj z⟩
      · rw [List.getElem?_set_ne e, List.getElem?_set_ne e, ← List.getD_eq_getElem?_getD]
        exact g.rl t' h'
    · show ((fnd.set t (some (outN k st l))).filterMap id).Perm (st.gv ++ [outN k st l])
      exact (perm_fset hfn).trans (g.pm.append_right _)
    · show ((st.gv ++ [outN k st l]).filter fun n => n % 2 ^ k == pl).length = (outS k st t l).outs.getD pl 0
      rw [List.filter_append, List.length_append, g.cn pl hpl, List.filter_cons]
      by_cases e : pl = (lineR k).idxOf l
      · subst e
        rw [if_pos (by rw [hN2]; exact beq_self_eq_true _), hj']; rfl
      · rw [if_neg (by rw [hN2]; exact fun z => e (eq_of_beq z).symm), hoth pl e]; rfl
    · show n < (st.toks.set t none).length ∧ n / 2 ^ k < (outS k st t l).outs.getD (n % 2 ^ k) 0
      rw [List.length_set]
      rcases List.mem_append.mp (show n ∈ st.gv ++ [outN k st l] from hn) with h | h
      · obtain ⟨h1, h2⟩ := g.bd n h
        refine ⟨h1, ?_⟩
        by_cases e : n % 2 ^ k = (lineR k).idxOf l
        · rw [e, hj']; rw [e] at h2; omega
        · rw [hoth _ e]; exact h2
      · rw [List.mem_singleton.mp h, hN1, hN2, hj']
        exact ⟨hbig, Nat.lt_succ_self _⟩
    · show (st.gv ++ [outN k st l]).Nodup
      rw [List.nodup_append]
      refine ⟨g.nd, by simp, fun a ha c hc e => ?_⟩
      rw [List.mem_singleton.mp hc] at e
      rw [e] at ha
      have := (g.bd _ ha).2
      rw [hN1, hN2] at this
      omega
    · have h2 : (st.toks.set t none)[t']? = some (some (l', b')) := h'
      by_cases e : t = t'
      · subst e
        rw [List.getElem?_set_self htl] at h2
        cases Option.some.inj h2
      · rw [List.getElem?_set_ne e] at h2
        exact g.lf t' l' b' h2
theorem Good86.gl (g : Good86 k st fnd) : st.gv.length ≤ fnd.length := by
  rw [← g.pm.length_eq]
  exact List.length_filterMap_le _ _
theorem Good86.ob (k3 : k ≤ 3) (g : Good86 k st fnd) : ∀ v ∈ st.outs, v ≤ 1000 := by
  intro v hv
  obtain ⟨pl, hpl, e⟩ := List.getElem_of_mem hv
  have h1 : pl < 2 ^ k := by rw [← g.ok.o]; exact hpl
  have := g.fi.outs g.l40 h1
  rw [getD_lt hpl, e] at this
  have h2 : wd k st.toks.length pl ≤ st.toks.length + 2 ^ k - 1 - pl := Nat.div_le_self _ _
  have := pow8 k3
  have := g.l40
  omega
theorem flow_none {ups : List Bool} {toks : List (Option (Nat × Nat))} (h : ∀ o ∈ toks, o = none) : ∀ s x, flow k ups toks (fun _ => 0) s x = 0
  | 0, x => by
    show 0 + cnt toks x 0 = 0
    unfold cnt
    rw [List.count_eq_zero.mpr (fun z => by cases h _ z)]
  | s + 1, x => by
    unfold flow
    rw [flow_none h s, flow_none h s, flow_none h s]
    have : cnt toks x (s + 1) = 0 := List.count_eq_zero.mpr (fun z => by cases h _ z)
    rw [this]
    have hz : ∀ u, hf u (0 + 0) = 0 := fun u => by cases u <;> rfl
    rw [hz, hz]
    split
    · rfl
    · split <;> rfl
theorem Good86.done (g : Good86 k st fnd) (h : ∀ o ∈ fnd, o ≠ none) : ∀ pl, pl < 2 ^ k → st.outs.getD pl 0 = wd k st.toks.length pl := by
  intro pl hpl
  have e := g.fi (fun _ => 0) (by rw [tot_zero]; exact g.l40) pl hpl
  rw [tot_zero, Nat.add_zero, flow_none, Nat.add_zero] at e
  · exact e
  · intro o ho
    obtain ⟨t, ht, e2⟩ := List.getElem_of_mem ho
    cases o with
    | none => rfl
    | some q =>
      have htf : t < fnd.length := by rw [g.ln]; exact ht
      have := (g.rl t htf).mpr ⟨q.1, q.2, by rw [List.getElem?_eq_getElem ht, e2]⟩
      rw [getD_lt htf] at this
      exact absurd this (h _ (List.getElem_mem htf))
end
def intsN (ns : List Nat) : List Int := ns.map fun n : Nat => (n : Int)
theorem natsV_I {ns : List Nat} : natsV ns = (intsN ns).map V.int := natsV_ints
theorem strict {ms : List Int} {ns : List Nat} (p : ms.Perm (intsN ns)) (s : ms.Pairwise (· ≤ ·)) (nd : ns.Nodup) : ms.Pairwise (· < ·) := by
  have h : (intsN ns).Nodup := by
    unfold intsN
    exact List.Pairwise.map (R := (· ≠ ·)) _ (fun a b h e => h (Int.ofNat.inj e)) nd
  have h2 : ms.Pairwise (· ≠ ·) := p.nodup_iff.mpr h
  exact (s.and h2).imp fun ⟨a, b⟩ => by omega
theorem srange : ∀ {ms : List Int} {lo : Int}, ms.Pairwise (· < ·) → (∀ x ∈ ms, lo ≤ x ∧ x < lo + ms.length) → ms = (List.range ms.length).map fun i : Nat => lo + (i : Int)
  | [], _, _, _ => rfl
  | a :: r, lo, hs, hb => by
    obtain ⟨h1, h2⟩ := List.pairwise_cons.mp hs
    have ha := hb a (by simp)
    have hl : (a :: r).length = r.length + 1 := rfl
    have ih := srange (ms := r) (lo := lo + 1) h2 (fun x hx => by
      have := h1 x hx
      have := hb x (List.mem_cons_of_mem _ hx)
      rw [hl] at this
      constructor <;> omega)
    have ea : a = lo := by
      cases hr : r with
      | nil => rw [hr] at ha; have : a < lo + 1 := ha.2; omega
      | cons c q =>
        rw [hr] at ih
        have hc : c = lo + 1 := by
          have := congrArg (fun l => l[0]?) ih
          rw [List.getElem?_map, List.getElem?_range (show 0 < (c :: q).length from Nat.zero_lt_succ _)] at this
          have h3 : some c = some (lo + 1 + ((0 : Nat) : Int)) := this
          have := Option.some.inj h3
          omega
        have := h1 c (by rw [hr]; simp)
        omega
    rw [hl, List.range_succ_eq_map, List.map_cons, List.map_map]
    have e : (fun i : Nat => lo + (i : Int)) ∘ Nat.succ = fun i : Nat => lo + 1 + (i : Int) := by
      funext i
      show lo + ((i + 1 : Nat) : Int) = lo + 1 + (i : Int)
      omega
    rw [e, ← ih, ea]
    congr 1
    show lo = lo + ((0 : Nat) : Int)
    omega
end L3

namespace L3
open PySem PySem.Spec PyProof.Rows L2
def sp_inside86 (C : Addr) (K : PySem.W.Frag) : Sp := sp1 fun x H Q => ∃ (p lu lt lc lg : Addr) (k : Nat) (st : CSt), x = .ref p ∧ CtrAt K C k p lu lt lc lg H st ∧ Q (.int ((st.toks.length : Int) - (st.gv.length : Int))) H
def sp_told86 (C : Addr) (K : PySem.W.Frag) : Sp := sp1 fun x H Q => ∃ (p lu lt lc lg : Addr) (k : Nat) (st : CSt), x = .ref p ∧ CtrAt K C k p lu lt lc lg H st ∧ st.gv.length < 64 ∧ ∀ y ms H', Grow [] H H' → BoardAt K H' y ms → ms.Perm (intsN st.gv) → ms.Pairwise (· ≤ ·) → Q y H'
theorem intsN_len {ns : List Nat} : (intsN ns).length = ns.length := by unfold intsN; rw [List.length_map]
theorem intsN_perm {a b : List Nat} (h : a.Perm b) : (intsN a).Perm (intsN b) := h.map _
theorem fnd_all : ∀ {fnd : List (Option Nat)}, (∀ o ∈ fnd, o ≠ none) → fnd.map oV = (intsN (fnd.filterMap id)).map V.int ∧ (fnd.filterMap id).length = fnd.length
  | [], _ => ⟨rfl, rfl⟩
  | none :: r, h => absurd rfl (h none (by simp))
  | some n :: r, h => by
    obtain ⟨e1, e2⟩ := fnd_all (fnd := r) fun o ho => h o (List.mem_cons_of_mem _ ho)
    exact ⟨congrArg (V.int (n : Int) :: ·) e1, congrArg (· + 1) e2⟩
def Pend (k : Nat) (st : CSt) (fnd : List (Option Nat)) (t s : Nat) : Prop := fnd.getD t none ≠ none ∨ (s ≤ 6 ∧ ∃ l b, st.toks[t]? = some (some (l, b)) ∧ lft k (6 - s) l b = true)
theorem Pend.go {k : Nat} {st : CSt} {fnd : List (Option Nat)} {t s l b : Nat} (ht : st.toks[t]? = some (some (l, b))) (hf : t < fnd.length) (hs : s ≤ 6) (hl : lft k (6 - s) l b = true) : Pend k (goS k st t l b) (fnd.set t (goO k st l b)) t (s + 1) := by
  have htl : t < st.toks.length := (List.getElem?_eq_some_iff.mp ht).1
  unfold Pend goS goO
  cases hh : (tcm (rowsT k) l b ((rowsT k).length - b)).head? with
  | none =>
    refine .inl ?_
    show (fnd.set t (some (outN k st l))).getD t none ≠ none
    rw [getD_lt (by rw [List.length_set]; exact hf), List.getElem_set_self]
    exact fun z => nomatch z
  | some i =>
    refine .inr ?_
    have h0 : 6 - s ≠ 0 := fun z => by
      rw [z] at hl
      rw [lft_zero hl] at hh; cases hh
    obtain ⟨m, hm⟩ : ∃ m, 6 - s = m + 1 := ⟨6 - s - 1, by omega⟩
    rw [hm] at hl
    exact ⟨by omega, _, _, List.getElem?_set_self htl, by rw [show 6 - (s + 1) = m by omega]; exact lft_step hl hh⟩
theorem Good86.sorted {k : Nat} {st : CSt} {fnd : List (Option Nat)} (g : Good86 k st fnd) (h : ∀ o ∈ fnd, o ≠ none) {ms : List Int} (pm : ms.Perm (intsN (fnd.filterMap id))) (sm : ms.Pairwise (· ≤ ·)) : ms.map V.int = natsV (List.range fnd.length) := by
  have pmg : ms.Perm (intsN st.gv) := pm.trans (intsN_perm g.pm)
  have hl : ms.length = fnd.length := by rw [pm.length_eq, intsN_len, (fnd_all h).2]
  have e := srange (ms := ms) (lo := 0) (strict pmg sm g.nd) (fun x hx => by
    have : x ∈ intsN st.gv := pmg.mem_iff.mp hx
    obtain ⟨n, hn, rfl⟩ := List.mem_map.mp this
    have := (g.bd n hn).1
    have := g.ln
    constructor <;> omega)
  rw [e, hl]
  unfold natsV
  rw [List.map_map]
  refine List.map_congr_left fun i _ => ?_
  show V.int (0 + (i : Int)) = V.int (i : Int)
  rw [Int.zero_add]
theorem ne_none {H : Hp} {a b : Addr} {o : HO} (h : H a = some o) (h' : H b = none) : b ≠ a := fun e => by rw [e, h] at h'; cases h'
theorem CtrAt.apart {K : PySem.W.Frag} {C : Addr} {k : Nat} {p lu lt lc lg : Addr} {H : Hp} {st : CSt} (h : CtrAt K C k p lu lt lc lg H st) {l : Addr} (hl : H l = none) : l ∉ [p, lu, lt, lc, lg] := by
  obtain ⟨⟨dx, vg, vo, e, r, o⟩, up, ⟨xs, t1, t2⟩, co, g1, _⟩ := h
  intro z
  simp only [List.mem_cons, List.not_mem_nil, or_false] at z
  rcases z with z | z | z | z | z
  · exact ne_none e hl z
  · exact ne_none up hl z
  · exact ne_none t1 hl z
  · exact ne_none co hl z
  · exact ne_none g1 hl z
end L3

namespace L3
open PySem PySem.Spec PyProof.Rows L2
section
variable {c : TT} {e : TE} {i : Nat} {v v' : V} {t u r : TS} {D : Ends} {σ : L2.St} {H : Hp} {rt : VK} {bk ct : L2.St → Hp → Prop}
theorem c_if (Good : L2.St → Hp → Prop) (hr : ∀ σ' H', Good σ' H' → r D σ' H') (hc : (∀ σ' H', Good σ' H' → r D σ' H') → tIfS c t u { D with nx := r D } σ H) : tSeq (tIfS c t u) r D σ H := hc hr
theorem c_asg (Good : V → Hp → Prop) (hc : ∀ K : VK, (∀ v H', Good v H' → K v H') → e σ H K) (hr : ∀ v H', Good v H' → t D (σ.set i (some v)) H') : tSeq (tAsg e (gName i)) t D σ H := hc _ fun v H' g => hr v H' g
theorem c_nx (h : t D σ H) : ({ nx := t D, rt := rt, bk := bk, ct := ct } : Ends).nx σ H := h
end
end L3

namespace L3
open PySem PySem.Spec PyProof.Rows L2
abbrev OKey := Option Key
def okV : OKey → V
  | none => .non
  | some k => kV k
def DcO (a : Addr) (kvs : List (V × V)) : HO := .ext fun h => ∃ o es n, h.get? a = some o ∧ o.cls = .type "dict" ∧ o.data = .dict es n ∧ Vals (kvs.map (·.1)) (es.toList.map (·.key)) ∧ Vals (kvs.map (·.2)) (es.toList.map (·.val))
mutual
/-- nested data, whose lists and dicts are none of m -/
inductive Od (K : PySem.W.Frag) (m : List Addr) (H : Hp) : V → PyData → Prop
  | non : Od K m H .non .none
  | bl (b : Bool) : Od K m H (.bl b) (.bool b)
  | int (i : Int) : Od K m H (.int i) (.int i)
  | str (x : Str) : Od K m H (.str x) (.str x)
  | tup {a : Addr} {xs : List V} {ds : List PyData} : SqT K H a xs → Ods K m H xs ds → Od K m H (.ref a) (.tuple ds)
  | lst {a : Addr} {xs : List V} {ds : List PyData} : H a = some (.lst xs) → a ∉ m → a ≠ sysModules → Ods K m H xs ds → Od K m H (.ref a) (.list ds)
  | dct {a : Addr} {kvs : List (V × V)} {ds : List (PyData × PyData)} : H a = some (DcO a kvs) → a ∉ m → a ≠ sysModules → Ods K m H (kvs.map (·.1)) (ds.map (·.1)) → Ods K m H (kvs.map (·.2)) (ds.map (·.2)) → Od K m H (.ref a) (.dict ds)
inductive Ods (K : PySem.W.Frag) (m : List Addr) (H : Hp) : List V → List PyData → Prop
  | nil : Ods K m H [] []
  | cons {x : V} {xs : List V} {d : PyData} {ds : List PyData} : Od K m H x d → Ods K m H xs ds → Ods K m H (x :: xs) (d :: ds)
end
section
variable {K : PySem.W.Frag} {m : List Addr} {H H' : Hp}
mutual
theorem Od.grow (g : Grow m H H') : ∀ {x : V} {d : PyData}, Od K m H x d → Od K m H' x d
  | _, _, .non => .non
  | _, _, .bl b => .bl b
  | _, _, .int i => .int i
  | _, _, .str x => .str x
  | _, _, .tup h t => .tup (g.sqT h) (Ods.grow g t)
  | _, _, .lst h n b t => .lst (g.keep _ _ n h) n b (Ods.grow g t)
  | _, _, .dct h n b t u => .dct (g.keep _ _ n h) n b (Ods.grow g t) (Ods.grow g u)
theorem Ods.grow (g : Grow m H H') : ∀ {xs : List V} {ds : List PyData}, Ods K m H xs ds → Ods K m H' xs ds
  | _, _, .nil => .nil
  | _, _, .cons h t => .cons (Od.grow g h) (Ods.grow g t)
end
theorem Ods.length : ∀ {xs : List V} {ds : List PyData}, Ods K m H xs ds → xs.length = ds.length
  | _, _, .nil => rfl
  | _, _, .cons _ t => congrArg (· + 1) (Ods.length t)
theorem Ods.get : ∀ {xs : List V} {ds : List PyData} {i : Nat} {x : V}, Ods K m H xs ds → xs[i]? = some x → ∃ d, ds[i]? = some d ∧ Od K m H x d
  | _, _, _, _, .nil, e => by simp at e
  | _, _, 0, _, .cons h _, e => by simp at e; subst e; exact ⟨_, rfl, h⟩
  | _, _, i + 1, x, .cons _ t, e => Ods.get (i := i) t (by simpa using e)
theorem Ods.at : ∀ {xs : List V} {ds : List PyData} {i : Nat} {d : PyData}, Ods K m H xs ds → ds[i]? = some d → ∃ x, xs[i]? = some x ∧ Od K m H x d
  | _, _, _, _, .nil, e => by simp at e
  | _, _, 0, _, .cons h _, e => by simp at e; subst e; exact ⟨_, rfl, h⟩
  | _, _, i + 1, x, .cons _ t, e => Ods.at (i := i) t (by simpa using e)
theorem Ods.append : ∀ {xs ys : List V} {ds es : List PyData}, Ods K m H xs ds → Ods K m H ys es → Ods K m H (xs ++ ys) (ds ++ es)
  | _, _, _, _, .nil, s => s
  | _, _, _, _, .cons r t, s => .cons r (Ods.append t s)
theorem Ods.take : ∀ {xs : List V} {ds : List PyData} (n : Nat), Ods K m H xs ds → Ods K m H (xs.take n) (ds.take n)
  | _, _, 0, _ => .nil
  | _, _, _ + 1, .nil => .nil
  | _, _, n + 1, .cons r t => .cons r (Ods.take n t)
theorem Ods.drop : ∀ {xs : List V} {ds : List PyData} (n : Nat), Ods K m H xs ds → Ods K m H (xs.drop n) (ds.drop n)
  | _, _, 0, r => r
  | _, _, _ + 1, .nil => .nil
  | _, _, n + 1, .cons _ t => Ods.drop n t
end
section
variable {X : Cx} {pins : List (Addr × Obj)} {σ : L2.St} {H : Hp} {s : Shared} {m : List Addr}
theorem inv_big (I : Inv X pins σ H s) : sysModules < s.heap.objs.size := Nat.lt_trans (by decide) (show mainGlobals < s.heap.objs.size from (I.mod.glob.keeps I.bk).lt)
theorem DcO.at (I : Inv X pins σ H s) {a : Addr} {kvs : List (V × V)} (h : H a = some (DcO a kvs)) : ∃ o es n, s.heap.get? a = some o ∧ o.cls = .type "dict" ∧ o.data = .dict es n ∧ Vals (kvs.map (·.1)) (es.toList.map (·.key)) ∧ Vals (kvs.map (·.2)) (es.toList.map (·.val)) := (I.hok a _ h).1
mutual
theorem Od.reads (I : Inv X pins σ H s) : ∀ {x : V} {d : PyData} {u : Value}, Od X.K m H x d → RelV x u → ∃ as, Reads s.heap u d as ∧ sysModules ∉ as
  | _, _, u, .non, r => by
    cases (show u = Value.none from r)
    exact ⟨_, .none, by simp⟩
  | _, _, u, .bl b, r => by
    cases (show u = Value.bool b from r)
    exact ⟨_, .bool b, by simp⟩
  | _, _, u, .int i, r => by
    obtain ⟨t, rfl⟩ := r
    exact ⟨_, .int i t, by simp⟩
  | _, _, u, .str x, r => by
    obtain ⟨t, rfl⟩ := r
    exact ⟨_, .str x t, by simp⟩
  | _, _, u, .tup (a := a) hs hd, r => by
    cases (show u = Value.ref a from r)
    obtain ⟨its, r1, ⟨o, e1, e2, n, e3⟩, _⟩ := I.tuple hs
    obtain ⟨as, q, ns⟩ := Ods.reads I hd r1
    exact ⟨_, .tuple e1 e2 e3 q, ns⟩
  | _, _, u, .lst (a := a) hs _ hb hd, r => by
    cases (show u = Value.ref a from r)
    obtain ⟨its, r1, ⟨o, n, e1, e2, _, e3⟩, _⟩ := I.list (SqL.of hs)
    obtain ⟨as, q, ns⟩ := Ods.reads I hd r1
    exact ⟨_, .list e1 e2 e3 q, fun z => (List.mem_cons.mp z).elim (fun e => hb e.symm) ns⟩
  | _, _, u, .dct (a := a) hs _ hb h1 h2, r => by
    cases (show u = Value.ref a from r)
    obtain ⟨o, es, n, e1, e2, e3, v1, v2⟩ := DcO.at I hs
    obtain ⟨as, q1, n1⟩ := Ods.reads I h1 v1
    obtain ⟨bs, q2, n2⟩ := Ods.reads I h2 v2
    refine ⟨_, .dict e1 e2 e3 q1 q2, fun z => ?_⟩
    rcases List.mem_append.mp z with z | z
    · exact (List.mem_cons.mp z).elim (fun e => hb e.symm) n1
    · exact n2 z
theorem Ods.reads (I : Inv X pins σ H s) : ∀ {xs : List V} {ds : List PyData} {us : List Value}, Ods X.K m H xs ds → Vals xs us → ∃ as, ReadsAll s.heap us ds as ∧ sysModules ∉ as
  | _, _, _, .nil, .nil => ⟨_, .nil, by simp⟩
  | _, _, _, .cons h t, .cons r rs => by
    obtain ⟨as, q, n1⟩ := Od.reads I h r
    obtain ⟨bs, q2, n2⟩ := Ods.reads I t rs
    exact ⟨_, .cons q q2, fun z => (List.mem_append.mp z).elim n1 n2⟩
end
def rReprO (K : PySem.W.Frag) : List V → Hp → VK → Prop := fun xs H Q => ∃ x d m, xs = [x] ∧ Od K m H x d ∧ d.showable = true ∧ d.depth ≤ 60 ∧ d.shown.length ≤ sizeLine ∧ Q (.str d.shown) H
theorem call_reprO {K : PySem.W.Frag} {k : Nat} (hK : X.K = K) (hr : Room k X.A) : CallR X (.builtin "repr") (rReprO K) := by
  subst hK
  intro pins s σ H xs us Q I r h
  obtain ⟨x, d, m, rfl, hd, h1, h3, h4, q⟩ := h
  obtain ⟨u, rfl, rx⟩ := vals1 r
  have key : ∀ a, u = .ref a → wpAny (model X.prog X.w) X.A (call (.builtin "repr") [u]) (EP X pins σ Q) X.xe s := fun a e => by
    subst e
    obtain ⟨as, rd, ns⟩ := Od.reads I hd rx
    exact repr_of_reads' rd h1 (fun _ => ns) hr.gd (by have := hr.un; omega) (fun _ _ e => e) (fun h' t tk hk => ⟨.str _, H, I.kept hk, ⟨_, rfl⟩, q⟩) h4
  cases hd with
  | non =>
    cases (show u = Value.none from rx)
    exact PySem.P.repr_of_none ⟨.str _, H, I.tok _, ⟨_, rfl⟩, q⟩
  | bl b =>
    cases (show u = Value.bool b from rx)
    exact PySem.P.repr_of_bool ⟨.str _, H, I.tok _, ⟨_, rfl⟩, q⟩
  | int i =>
    obtain ⟨t, rfl⟩ := rx
    exact PySem.P.repr_of_int (of_decide_eq_true h1) ⟨.str _, H, I.tok _, ⟨_, rfl⟩, q⟩
  | str x =>
    obtain ⟨t, rfl⟩ := rx
    exact PySem.P.repr_of_str ⟨.str _, H, I.tok _, ⟨_, rfl⟩, q⟩ h4
  | tup hs ha => exact key _ rx
  | lst hs _ _ ha => exact key _ rx
  | dct hs _ _ h1 h2 => exact key _ rx
end
end L3

namespace L3
open PySem PySem.Spec PyProof.Rows L2
section
variable {K : PySem.W.Frag} {m m' : List Addr} {H : Hp}
mutual
theorem Od.more {a : Addr} (h : H a = none) : ∀ {x : V} {d : PyData}, Od K m H x d → Od K (a :: m) H x d
  | _, _, .non => .non
  | _, _, .bl b => .bl b
  | _, _, .int i => .int i
  | _, _, .str x => .str x
  | _, _, .tup q t => .tup q (Ods.more h t)
  | _, _, .lst q n b t => .lst q (fun z => (List.mem_cons.mp z).elim (fun e => by rw [e, h] at q; cases q) n) b (Ods.more h t)
  | _, _, .dct q n b t u => .dct q (fun z => (List.mem_cons.mp z).elim (fun e => by rw [e, h] at q; cases q) n) b (Ods.more h t) (Ods.more h u)
theorem Ods.more {a : Addr} (h : H a = none) : ∀ {xs : List V} {ds : List PyData}, Ods K m H xs ds → Ods K (a :: m) H xs ds
  | _, _, .nil => .nil
  | _, _, .cons q t => .cons (Od.more h q) (Ods.more h t)
end
mutual
theorem Od.less (h : ∀ b ∈ m', b ∈ m) : ∀ {x : V} {d : PyData}, Od K m H x d → Od K m' H x d
  | _, _, .non => .non
  | _, _, .bl b => .bl b
  | _, _, .int i => .int i
  | _, _, .str x => .str x
  | _, _, .tup q t => .tup q (Ods.less h t)
  | _, _, .lst q n b t => .lst q (fun z => n (h _ z)) b (Ods.less h t)
  | _, _, .dct q n b t u => .dct q (fun z => n (h _ z)) b (Ods.less h t) (Ods.less h u)
theorem Ods.less (h : ∀ b ∈ m', b ∈ m) : ∀ {xs : List V} {ds : List PyData}, Ods K m H xs ds → Ods K m' H xs ds
  | _, _, .nil => .nil
  | _, _, .cons q t => .cons (Od.less h q) (Ods.less h t)
end
end
theorem star_dict {ks : List (Option Expr)} {vs es : List Expr} {p : Pos} {env : Env} : starEach (.Dict ks vs p :: es) env = (false, eval (.Dict ks vs p) env) :: starEach es env := by rfl
structure DR where
  p : List Addr → L2.St → Hp → Prop
  mono : ∀ {m σ H H'}, Grow [] H H' → p m σ H → p m σ H'
  more : ∀ {a m σ H}, H a = none → p m σ H → p (a :: m) σ H
def DR.t : DR := ⟨fun _ _ _ => True, fun _ _ => trivial, fun _ _ => trivial⟩
def DR.and (a b : DR) : DR := ⟨fun m σ H => a.p m σ H ∧ b.p m σ H, fun g h => ⟨a.mono g h.1, b.mono g h.2⟩, fun g h => ⟨a.more g h.1, b.more g h.2⟩⟩
def tOd (K : PySem.W.Frag) (R : DR) (D : PyData) : TE := fun σ H Q => ∃ m, R.p m σ H ∧ (∀ b ∈ m, H b ≠ none) ∧ ∀ x H', Grow [] H H' → Od K m H' x D → Q x H'
def tOds (K : PySem.W.Frag) (R : DR) (Ds : List PyData) : TA := fun σ H Q => ∃ m, R.p m σ H ∧ (∀ b ∈ m, H b ≠ none) ∧ ∀ xs H', Grow [] H H' → Ods K m H' xs Ds → Q xs H'
theorem grow_none {H H' : Hp} {m : List Addr} (g : Grow [] H H') (h : ∀ b ∈ m, H b ≠ none) : ∀ b ∈ m, H' b ≠ none := fun b hb z => by
  cases e : H b with
  | none => exact h b hb e
  | some o => rw [g.keep b o (by simp) e] at z; cases z
section
variable {X : Cx} {K : PySem.W.Frag} {R R' : DR} {D : PyData} {Ds : List PyData} {e : Expr} {es : List Expr} {pos : Pos} {j}
theorem po_int {i : Int} : PE X (.Constant (.int i) j pos) (tOd K .t (.int i)) := fun pins s σ H Q I ⟨m, _, _, q⟩ => pe_int pins s σ H Q I (q _ _ (Grow.refl _ _) (.int i))
theorem pos_nil : PA X [] (tOds K .t []) := fun pos pins s σ H Q I ⟨m, _, _, q⟩ => pa_nil pos pins s σ H Q I (q _ _ (Grow.refl _ _) .nil)
theorem pos_cons (h : PE X e (tOd K R D)) (t : PA X es (tOds K R' Ds)) (hs : starEach (e :: es) X.env = (false, eval e X.env) :: starEach es X.env := by rfl) : PA X (e :: es) (tOds K (.and R R') (D :: Ds)) := fun pos pins s σ H Q I ⟨m, ⟨r1, r2⟩, b, q⟩ =>
  pa_cons h t hs pos pins s σ H Q I ⟨m, r1, b, fun x H1 g1 o1 => ⟨m, R'.mono g1 r2, grow_none g1 b, fun xs H2 g2 o2 => q _ _ (g1.trans g2) (.cons (o1.grow (g2.mono (by simp))) o2)⟩⟩
theorem pos_consT (h : PE X e (tOd K .t D)) (t : PA X es (tOds K R' Ds)) (hs : starEach (e :: es) X.env = (false, eval e X.env) :: starEach es X.env := by rfl) : PA X (e :: es) (tOds K R' (D :: Ds)) := fun pos pins s σ H Q I ⟨m, r2, b, q⟩ =>
  pos_cons h t hs pos pins s σ H Q I ⟨m, ⟨trivial, r2⟩, b, q⟩
theorem po_tup {x1} (h : PA X es (tOds K R Ds)) (hl : Ds.length ≤ 1000 := by decide) : PE X (.Tuple es x1 pos) (tOd K R (.tuple Ds)) := fun pins s σ H Q I ⟨m, r, b, q⟩ =>
  pe_tup h pins s σ H Q I ⟨m, r, b, fun xs H' g o => ⟨by rw [o.length]; exact Nat.le_of_lt (small1000 hl), fun p hp =>
    have g2 := Grow.new (m := []) hp (.tup xs)
    q _ _ (g.trans g2) (.tup (SqT.of upd_same) (o.grow (g2.mono (by simp))))⟩⟩
def tLstB (t : TA) : TE := fun σ H Q => t σ H fun xs H1 => xs.length ≤ sizeLine ∧ ∀ p, H1 p = none → p ≠ sysModules → Q (.ref p) (upd H1 p (.lst xs))
theorem pe_lstB {t : TA} (h : PA X es t) : PE X (.List es pos) (tLstB t) := by
  intro pins s σ H Q I hq
  refine wpAny_List_spliced (thn (h pos pins s σ H _ I hq) fun us s1 ⟨xs, H1, I1, r, z, q⟩ => ⟨by rw [← r.length]; exact z, ?_⟩)
  have hf : H1 s1.heap.objs.size = none := I1.hok.fresh (Nat.le_refl _)
  refine ⟨.ref s1.heap.objs.size, upd H1 s1.heap.objs.size (.lst xs), I1.laid (t' := s1.toks) (fun b u e => Heap.get?_push_of_some _ e) (Nat.le_refl _) ?_, rfl, q _ hf (Nat.ne_of_gt (inv_big I1))⟩
  exact ⟨z, us, 0, r, Heap.get?_push_size _ rfl⟩
theorem notMem {m : List Addr} {H : Hp} {p : Addr} (b : ∀ b ∈ m, H b ≠ none) (h : H p = none) : p ∉ m := fun z => b p z h
theorem po_lst (h : PA X es (tOds K R Ds)) (hl : Ds.length ≤ 1000 := by decide) : PE X (.List es pos) (tOd K R (.list Ds)) := fun pins s σ H Q I ⟨m, r, b, q⟩ =>
  pe_lstB h pins s σ H Q I ⟨m, r, b, fun xs H' g o => ⟨by rw [o.length]; exact Nat.le_of_lt (small1000 hl), fun p hp hn =>
    have g2 := Grow.new (m := []) hp (.lst xs)
    q _ _ (g.trans g2) (.lst upd_same (notMem (grow_none g b) hp) hn (o.grow (g2.mono (by simp))))⟩⟩
end
def KxR (p : OKey × V) (q : Value × Value) : Prop := RelV (okV p.1) q.1 ∧ RelV p.2 q.2
structure PO2 (X : Cx) (ks : List (Option Expr)) (vs : List Expr) (R : DR) (kds : List (OKey × PyData)) : Prop where
  run : ∀ (pos : Pos) (pins : List (Addr × Obj)) (s : Shared) (σ : L2.St) (H : Hp) (m : List Addr) (Q : List (Value × Value) → Shared → Prop), Inv X pins σ H s → R.p m σ H → (∀ b ∈ m, H b ≠ none) →
    (∀ r s' H' (kxs : List (OKey × V)), Inv X pins σ H' s' → Grow [] H H' → Paired KxR kxs r → kxs.map (·.1) = kds.map (·.1) → Ods X.K m H' (kxs.map (·.2)) (kds.map (·.2)) → Q r s') →
    wpAny (model X.prog X.w) X.A (evalPairs (pairTrees ks vs X.env pos)) Q X.xe s
section
variable {X : Cx} {K : PySem.W.Frag} {R R' : DR} {D : PyData} {e k : Expr} {ks : List (Option Expr)} {vs : List Expr} {kds : List (OKey × PyData)} {pos : Pos}
theorem po_dnil : PE X (.Dict [] [] pos) (tOd K .t (.dict [])) := by
  intro pins s σ H Q I ⟨m, _, hb, q⟩
  have hf : H s.heap.objs.size = none := I.hok.fresh (Nat.le_refl _)
  refine wpAny_Dict_empty ?_
  have I1 : Inv X pins σ (upd H s.heap.objs.size (DcO s.heap.objs.size [])) { s with heap := s.heap.push { cls := .type "dict", data := .dict #[] } } :=
    I.laid (t' := s.toks) (fun b u e => Heap.get?_push_of_some _ e) (Nat.le_refl _) ⟨⟨_, _, _, Heap.get?_push_size _ rfl, rfl, rfl, .nil, .nil⟩, ⟨_, Heap.get?_push_size _ rfl⟩, fun h1 h2 hφ hk => by
      obtain ⟨o', es', n', a1, a2⟩ := hφ
      exact ⟨o', es', n', hk _ a1, a2⟩⟩
  exact ⟨.ref s.heap.objs.size, _, I1, rfl, q _ _ (Grow.new hf _) (.dct (kvs := []) (ds := []) upd_same (notMem hb hf) (Nat.ne_of_gt (inv_big I)) .nil .nil)⟩
end
end L3

namespace L3
open PySem PySem.Spec PyProof.Rows L2
def tyD : PyData → String
  | .none => "NoneType"
  | .bool _ => "bool"
  | .int _ => "int"
  | .str _ => "str"
  | .list _ => "list"
  | .tuple _ => "tuple"
  | .dict _ => "dict"
def rIsiO (K : PySem.W.Frag) : List V → Hp → VK → Prop := fun xs H Q => ∃ x d m T k, xs = [x, .ty T] ∧ Od K m H x d ∧ PySem.W.kitOne K (.type (tyD d)) (.type T) = some k ∧ Q (.bl k) H
theorem call_isiO {X : Cx} {K : PySem.W.Frag} (hK : X.K = K) : CallR X (.builtin "isinstance") (rIsiO K) := by
  subst hK
  intro pins s σ H xs us Q I r h
  obtain ⟨x, d, m, T, k, rfl, hd, e, q⟩ := h
  cases hd with
  | non => exact call_isi pins s σ H _ us Q I r ⟨_, T, _, k, rfl, rfl, e, q⟩
  | bl b => exact call_isi pins s σ H _ us Q I r ⟨_, T, _, k, rfl, rfl, e, q⟩
  | int i => exact call_isi pins s σ H _ us Q I r ⟨_, T, _, k, rfl, rfl, e, q⟩
  | str y => exact call_isi pins s σ H _ us Q I r ⟨_, T, _, k, rfl, rfl, e, q⟩
  | tup hs _ => exact call_isi pins s σ H _ us Q I r ⟨_, T, _, k, rfl, .inl ⟨rfl, _, hs⟩, e, q⟩
  | lst hs _ _ _ => exact call_isi pins s σ H _ us Q I r ⟨_, T, _, k, rfl, .inr (.inl ⟨rfl, _, SqL.of hs⟩), e, q⟩
  | @dct a kvs ds hs _ _ _ _ =>
    obtain ⟨u, w', rfl, rx, rt⟩ := vals2 r
    cases (show w' = Value.type T from rt)
    cases (show u = Value.ref a from rx)
    obtain ⟨o, es, n, e1, e2, _⟩ := DcO.at I hs
    exact PySem.W.kia_one PySem.W.kitx_dict I.kIn ⟨o, e1, e2⟩ e (fun z => nomatch z) fun tk => ⟨.bl k, H, I.tok _, rfl, q⟩
def intD : PyData → Bool
  | .int _ => true
  | .bool _ => true
  | _ => false
def boolD : PyData → Bool
  | .bool _ => true
  | _ => false
def wholeD : PyData → Bool
  | .int _ => true
  | _ => false
theorem kit_int {K : PySem.W.Frag} : ∀ {d : PyData}, PySem.W.kitOne K (.type (tyD d)) (.type "int") = some (intD d)
  | .none => rfl
  | .bool _ => rfl
  | .int _ => rfl
  | .str _ => rfl
  | .list _ => rfl
  | .tuple _ => rfl
  | .dict _ => rfl
theorem kit_bool {K : PySem.W.Frag} : ∀ {d : PyData}, PySem.W.kitOne K (.type (tyD d)) (.type "bool") = some (boolD d)
  | .none => rfl
  | .bool _ => rfl
  | .int _ => rfl
  | .str _ => rfl
  | .list _ => rfl
  | .tuple _ => rfl
  | .dict _ => rfl
def sp_is_wholeO (K : PySem.W.Frag) : Sp := sp1 fun x H Q => ∃ d m, Od K m H x d ∧ Q (.bl (wholeD d)) H
end L3

namespace L3
open PySem PySem.Spec PyProof.Rows L2
mutual
def leD (B : Int) : PyData → Bool
  | .int i => decide (-B ≤ i) && decide (i ≤ B)
  | .list xs | .tuple xs => leDs B xs
  | .dict kvs => leDk B kvs
  | .none | .bool _ | .str _ => true
def leDs (B : Int) : List PyData → Bool
  | [] => true
  | x :: xs => leD B x && leDs B xs
def leDk (B : Int) : List (PyData × PyData) → Bool
  | [] => true
  | (k, v) :: r => leD B k && leD B v && leDk B r
end
mutual
def wtO : PyData → Nat
  | .list xs | .tuple xs => wtOs xs + 3
  | .dict kvs => wtOk kvs + 3
  | .int _ => 1921
  | .none | .bool _ => 5
  | .str x => (reprText x).length
def wtOs : List PyData → Nat
  | [] => 0
  | x :: xs => wtO x + 2 + wtOs xs
def wtOk : List (PyData × PyData) → Nat
  | [] => 0
  | (k, v) :: r => wtO k + wtO v + 4 + wtOk r
end
mutual
theorem leD_mono {B B' : Int} (h : B ≤ B') : ∀ {d : PyData}, leD B d = true → leD B' d = true
  | .int i, z => by
    simp only [leD, Bool.and_eq_true, decide_eq_true_eq] at z ⊢
    omega
  | .list xs, z => leDs_mono h (xs := xs) z
  | .tuple xs, z => leDs_mono h (xs := xs) z
  | .dict kvs, z => leDk_mono h (kvs := kvs) z
  | .none, _ => rfl
  | .bool _, _ => rfl
  | .str _, _ => rfl
theorem leDs_mono {B B' : Int} (h : B ≤ B') : ∀ {xs : List PyData}, leDs B xs = true → leDs B' xs = true
  | [], _ => rfl
  | x :: xs, z => by
    have z' := Bool.and_eq_true_iff.mp (show (leD B x && leDs B xs) = true from z)
    show (leD B' x && leDs B' xs) = true
    rw [leD_mono h z'.1, leDs_mono h z'.2]; rfl
theorem leDk_mono {B B' : Int} (h : B ≤ B') : ∀ {kvs : List (PyData × PyData)}, leDk B kvs = true → leDk B' kvs = true
  | [], _ => rfl
  | (k, v) :: r, z => by
    have z' := Bool.and_eq_true_iff.mp (show (leD B k && leD B v && leDk B r) = true from z)
    have z'' := Bool.and_eq_true_iff.mp z'.1
    show (leD B' k && leD B' v && leDk B' r) = true
    rw [leD_mono h z''.1, leD_mono h z''.2, leDk_mono h z'.2]; rfl
end
theorem leDs_iff {B : Int} : ∀ {xs : List PyData}, leDs B xs = true ↔ ∀ x ∈ xs, leD B x = true
  | [] => by simp [leDs]
  | x :: xs => by simp [leDs, leDs_iff (xs := xs)]
theorem wtOs_append : ∀ {xs ys : List PyData}, wtOs (xs ++ ys) = wtOs xs + wtOs ys
  | [], ys => by simp [wtOs]
  | x :: xs, ys => by
    show wtO x + 2 + wtOs (xs ++ ys) = wtO x + 2 + wtOs xs + wtOs ys
    rw [wtOs_append]; omega
def Bg : Int := 2 ^ 1000
mutual
theorem showable_le {B : Int} (hB : B ≤ Bg) : ∀ {d : PyData}, leD B d = true → d.showable = true
  | .int i, z => by
    simp only [leD, Bool.and_eq_true, decide_eq_true_eq] at z
    have hb : Bg = 2 ^ 1000 := rfl
    show decide (i.natAbs.log2 < 1920) = true
    refine decide_eq_true ?_
    by_cases h0 : i.natAbs = 0
    · rw [h0]; decide
    · rw [Nat.log2_lt h0]
      have h1 : (i.natAbs : Int) ≤ Bg := by omega
      have h2 : i.natAbs ≤ 2 ^ 1000 := by rw [hb] at h1; exact_mod_cast h1
      exact Nat.lt_of_le_of_lt h2 (Nat.pow_lt_pow_right (by decide) (by decide))
  | .list xs, z => showableAll_le hB (xs := xs) z
  | .tuple xs, z => showableAll_le hB (xs := xs) z
  | .dict kvs, z => showableKv_le hB (kvs := kvs) z
  | .none, _ => rfl
  | .bool _, _ => rfl
  | .str _, _ => rfl
theorem showableAll_le {B : Int} (hB : B ≤ Bg) : ∀ {xs : List PyData}, leDs B xs = true → PyData.showableAll xs = true
  | [], _ => rfl
  | x :: xs, z => by
    have z' := Bool.and_eq_true_iff.mp (show (leD B x && leDs B xs) = true from z)
    show (x.showable && PyData.showableAll xs) = true
    rw [showable_le hB z'.1, showableAll_le hB z'.2]; rfl
theorem showableKv_le {B : Int} (hB : B ≤ Bg) : ∀ {kvs : List (PyData × PyData)}, leDk B kvs = true → PyData.showableKv kvs = true
  | [], _ => rfl
  | (k, v) :: r, z => by
    have z' := Bool.and_eq_true_iff.mp (show (leD B k && leD B v && leDk B r) = true from z)
    have z'' := Bool.and_eq_true_iff.mp z'.1
    show (k.showable && v.showable && PyData.showableKv r) = true
    rw [showable_le hB z''.1, showable_le hB z''.2, showableKv_le hB z'.2]; rfl
end
mutual
theorem shown_le : ∀ {d : PyData}, d.showable = true → d.shown.length ≤ wtO d
  | .none, _ => by decide
  | .bool b, _ => by cases b <;> decide
  | .int i, h => int_text_len_1921 (of_decide_eq_true h)
  | .str x, _ => Nat.le_refl _
  | .list xs, h => by
    have q := shown_les (xs := xs) h
    have l := listText_len_le (PyData.shownAll xs)
    show (listText (PyData.shownAll xs)).length ≤ wtOs xs + 3
    omega
  | .tuple xs, h => by
    have q := shown_les (xs := xs) h
    have l := tupleText_len_le (PyData.shownAll xs)
    show (tupleText (PyData.shownAll xs)).length ≤ wtOs xs + 3
    omega
  | .dict kvs, h => by
    have q := shown_lek (kvs := kvs) h
    have l := dictText_len_le (PyData.shownKv kvs)
    show (dictText (PyData.shownKv kvs)).length ≤ wtOk kvs + 3
    omega
theorem shown_les : ∀ {xs : List PyData}, PyData.showableAll xs = true → ((PyData.shownAll xs).map (·.length)).sum + 2 * (PyData.shownAll xs).length ≤ wtOs xs
  | [], _ => by decide
  | x :: xs, h => by
    have h' : (x.showable && PyData.showableAll xs) = true := h
    rw [Bool.and_eq_true] at h'
    have q1 := shown_le (d := x) h'.1
    have q2 := shown_les (xs := xs) h'.2
    show (((x.shown :: PyData.shownAll xs).map (·.length)).sum + 2 * (x.shown :: PyData.shownAll xs).length) ≤ wtO x + 2 + wtOs xs
    rw [List.map_cons, List.sum_cons, List.length_cons]
    omega
theorem shown_lek : ∀ {kvs : List (PyData × PyData)}, PyData.showableKv kvs = true → ((PyData.shownKv kvs).map (·.length)).sum + 2 * (PyData.shownKv kvs).length ≤ wtOk kvs
  | [], _ => by decide
  | (k, v) :: r, h => by
    have h' : (k.showable && v.showable && PyData.showableKv r) = true := h
    rw [Bool.and_eq_true, Bool.and_eq_true] at h'
    have q1 := shown_le (d := k) h'.1.1
    have q2 := shown_le (d := v) h'.1.2
    have q3 := shown_lek (kvs := r) h'.2
    have e : (k.shown ++ ": " ++ v.shown).length = k.shown.length + 2 + v.shown.length := by
      rw [strLen_append, strLen_append]; rfl
    show ((((k.shown ++ ": " ++ v.shown) :: PyData.shownKv r).map (·.length)).sum + 2 * ((k.shown ++ ": " ++ v.shown) :: PyData.shownKv r).length) ≤ wtO k + wtO v + 4 + wtOk r
    rw [List.map_cons, List.sum_cons, List.length_cons, e]
    omega
end

structure GdS (n k w : Nat) (ds : List PyData) : Prop where
  le : leDs (10 ^ 30 + n) ds = true
  dp : PyData.depthAll ds ≤ k
  wt : wtOs ds ≤ w
structure GdD (n k w : Nat) (d : PyData) : Prop where
  le : leD (10 ^ 30 + n) d = true
  dp : d.depth ≤ k
  wt : wtO d ≤ w
theorem leDs_append {B : Int} {a b : List PyData} (ha : leDs B a = true) (hb : leDs B b = true) : leDs B (a ++ b) = true := leDs_iff.mpr fun x hx => (List.mem_append.mp hx).elim (leDs_iff.mp ha x) (leDs_iff.mp hb x)
theorem depthAll_le {k : Nat} : ∀ {xs : List PyData}, PyData.depthAll xs ≤ k ↔ ∀ x ∈ xs, x.depth ≤ k
  | [] => by simp [PyData.depthAll]
  | x :: xs => by
    show max x.depth (PyData.depthAll xs) ≤ k ↔ _
    rw [Nat.max_le, depthAll_le (xs := xs)]
    simp
theorem GdS.append {n k w w' : Nat} {a b : List PyData} (ha : GdS n k w a) (hb : GdS n k w' b) : GdS n k (w + w') (a ++ b) :=
  ⟨leDs_append ha.le hb.le, depthAll_le.mpr fun x hx => (List.mem_append.mp hx).elim (depthAll_le.mp ha.dp x) (depthAll_le.mp hb.dp x), by rw [wtOs_append]; have := ha.wt; have := hb.wt; omega⟩
theorem GdS.sub {n k w : Nat} {a b : List PyData} (ha : GdS n k w a) (h : ∀ x ∈ b, x ∈ a) (hw : wtOs b ≤ wtOs a) : GdS n k w b :=
  ⟨leDs_iff.mpr fun x hx => leDs_iff.mp ha.le x (h x hx), depthAll_le.mpr fun x hx => depthAll_le.mp ha.dp x (h x hx), Nat.le_trans hw ha.wt⟩
theorem GdD.one {n k w : Nat} {d : PyData} (h : GdD n k w d) : GdS n k (w + 2) [d] := ⟨by show (leD _ d && true) = true; rw [h.le]; rfl, by show max d.depth 0 ≤ k; have := h.dp; omega, by show wtO d + 2 + 0 ≤ w + 2; have := h.wt; omega⟩
theorem GdS.tup {n k w : Nat} {ds : List PyData} (h : GdS n k w ds) : GdD n (k + 1) (w + 3) (.tuple ds) := ⟨h.le, Nat.succ_le_succ h.dp, Nat.add_le_add_right h.wt 3⟩
theorem GdS.lst {n k w : Nat} {ds : List PyData} (h : GdS n k w ds) : GdD n (k + 1) (w + 3) (.list ds) := ⟨h.le, Nat.succ_le_succ h.dp, Nat.add_le_add_right h.wt 3⟩
theorem GdS.mono {n n' k k' w w' : Nat} {ds : List PyData} (h : GdS n k w ds) (h1 : n ≤ n') (h2 : k ≤ k') (h3 : w ≤ w') : GdS n' k' w' ds := ⟨leDs_mono (by omega) h.le, Nat.le_trans h.dp h2, Nat.le_trans h.wt h3⟩
theorem GdD.mono {n n' k k' w w' : Nat} {d : PyData} (h : GdD n k w d) (h1 : n ≤ n') (h2 : k ≤ k') (h3 : w ≤ w') : GdD n' k' w' d := ⟨leD_mono (by omega) h.le, Nat.le_trans h.dp h2, Nat.le_trans h.wt h3⟩
theorem Bg_le {n : Nat} (h : n ≤ 1000000) : (10 : Int) ^ 30 + n ≤ Bg := by
  have h1 : (10 : Int) ^ 30 + 1000000 ≤ Bg := by decide +kernel
  omega
theorem GdD.shows {n k w : Nat} {d : PyData} (h : GdD n k w d) (hn : n ≤ 1000000) (hk : k ≤ 60) (hw : w ≤ 1000000) : d.showable = true ∧ d.depth ≤ 60 ∧ d.shown.length ≤ sizeLine := by
  have s := showable_le (Bg_le hn) h.le
  refine ⟨s, Nat.le_trans h.dp hk, ?_⟩
  have := shown_le s
  have := h.wt
  have : (1000000 : Nat) ≤ sizeLine := by decide
  omega
end L3
namespace L3
open PySem PySem.Spec PyProof.Rows L2
section
variable {K : PySem.W.Frag} {m : List Addr} {H : Hp} {x : V}
theorem Od.inv_tup {ds : List PyData} (h : Od K m H x (.tuple ds)) : ∃ a xs, x = .ref a ∧ SqT K H a xs ∧ Ods K m H xs ds := by
  cases h with
  | tup h1 h2 => exact ⟨_, _, rfl, h1, h2⟩
theorem Od.inv_int {i : Int} (h : Od K m H x (.int i)) : x = .int i := by cases h; rfl
theorem Ods.inv1 {xs : List V} {d : PyData} (h : Ods K m H xs [d]) : ∃ x, xs = [x] ∧ Od K m H x d := by
  cases h with
  | cons h t => cases t; exact ⟨_, rfl, h⟩
theorem Ods.inv3 {xs : List V} {d e f : PyData} (h : Ods K m H xs [d, e, f]) : ∃ x y z, xs = [x, y, z] ∧ Od K m H x d ∧ Od K m H y e ∧ Od K m H z f := by
  cases h with
  | cons h t =>
    cases t with
    | cons h2 t =>
      obtain ⟨z, rfl, hz⟩ := Ods.inv1 t
      exact ⟨_, _, _, rfl, h, h2, hz⟩
theorem pot_ne {a : Addr} (pp : Pot H a) : ∀ b ∈ [a], H b ≠ none := fun b hb z => by
  obtain ⟨u0, u1, hu, _⟩ := pp
  rw [List.mem_singleton.mp hb, hu] at z; cases z
end
end L3
namespace L3
open PySem PySem.Spec PyProof.Rows L2
end L3

namespace L3
open PySem PySem.Spec PyProof.Rows L2
def spX2 (f : V → V → Hp → VK → XK → Prop) : Sp := fun vs H Q E => ∃ x y, vs = [x, y] ∧ f x y H Q E
theorem spX2_len {f : V → V → Hp → VK → XK → Prop} {p q : Str} : ∀ vs H Q E, spX2 f vs H Q E → vs.length = [p, q].length := by rintro vs H Q E ⟨x, y, rfl, _⟩; rfl
def MkCalleeX (P : Program) (w : World) (K : PySem.W.Frag) (mg : Str → Option Value) (base : Heap) (C : Addr) (k : Nat) (ps : List Str) (sp : Sp) : Prop :=
  ∃ (j : Nat) (f : Addr) (fd : FuncData), j + 1 = k ∧ FnOk P w K mg base (CX1 P w) j f fd ps sp ∧ Binds K fd ps [] ∧ Mk K C f
section
variable {P : Program} {w : World} {K : PySem.W.Frag} {mg : Str → Option Value} {base : Heap} {C : Addr} {j k : Nat} {m : Str} {ps : List Str} {sp : Sp}
theorem MkCalleeX.mono (c : MkCalleeX P w K mg base C j ps sp) (h : j ≤ k) : MkCalleeX P w K mg base C k ps sp := by
  obtain ⟨i, f, fd, e, F, b, mt⟩ := c
  exact ⟨k - 1, f, fd, by omega, F.mono (by omega), b, mt⟩
theorem MCalleeX.make {f0 : Addr} (c : MCalleeX P w K mg base C k "__init__" ps sp) (mt : Mk K C f0) : MkCalleeX P w K mg base C (k + 1) ps sp := by
  obtain ⟨f, fd, F, b, m⟩ := c
  have e := m.at_
  rw [mt.init] at e
  cases e
  exact ⟨k, f0, fd, rfl, F, b, mt⟩
end
section
variable {X : Cx} {C : Addr} {k : Nat} {x : Str} {ps : List Str} {sp : Sp} {e : Expr} {es : List Expr} {t : TA} {pos p : Pos} {E : XK}
end
def withinD (l u : Int) : PyData → Bool
  | .int i => decide (l ≤ i) && decide (i ≤ u)
  | _ => false
def natP : PyData → Bool
  | .int i => !decide (i < 0)
  | _ => false
theorem within_int {l u : Int} {d : PyData} (h : withinD l u d = true) : ∃ i, d = .int i ∧ l ≤ i ∧ i ≤ u := by
  cases d with
  | int i =>
    simp only [withinD, Bool.and_eq_true, decide_eq_true_eq] at h
    exact ⟨i, rfl, h.1, h.2⟩
  | _ => cases h
def sp_withinO (K : PySem.W.Frag) : Sp := sp3 fun x y z H Q => ∃ (d : PyData) (m : List Addr) (l u : Int), Od K m H x d ∧ y = .int l ∧ z = .int u ∧ Q (.bl (withinD l u d)) H
def sp_lineO (K : PySem.W.Frag) : Sp := sp2 fun x y H Q => ∃ (k : Nat) (d : PyData) (m : List Addr), x = .int k ∧ k ≤ 4 ∧ Od K m H y d ∧ Q (.bl (withinD 0 ((2 ^ k : Nat) - 1) d)) H
end L3

namespace L3
open PySem PySem.Spec PyProof.Rows L2
end L3

namespace L3
open PySem PySem.Spec PyProof.Rows L2
theorem star_list {vs es : List Expr} {p : Pos} {env : Env} : starEach (.List vs p :: es) env = (false, eval (.List vs p) env) :: starEach es env := by rfl
inductive Kd where | net | small | side | many | num
def Kd.nm : Kd → Str
  | .net => "net" | .small => "small" | .side => "side" | .many => "many" | .num => "number"
def kindsN : Nat → List Kd
  | 0 => [.net, .num] | 1 => [.net, .num] | 2 => [.net, .side, .num] | 3 => [.net, .num, .num, .many] | _ => [.small]
def Kd.top (k : Nat) : Kd → Option Int
  | .net => some 4 | .small => some 3 | .side => some ((2 ^ k : Nat) - 1) | .many => some 200 | .num => none
def okB : Option Int → PyData → Bool
  | none, d => natP d
  | some u, d => withinD 0 u d
def lowD (d : PyData) : Prop := ∀ i, d = .int i → i < 2 ^ 190
def Asks (K : PySem.W.Frag) (H : Hp) (x y : V) (w : Nat) (ds : List PyData) : Prop := ∃ (l : Addr) (xs : List V) (m : List Addr), x = .int w ∧ y = .ref l ∧ w < 7 ∧ SqL K H l xs ∧ Ods K m H xs ds ∧ ds.length = (kindsN w).length ∧ ∀ d ∈ ds, lowD d
section
variable {K : PySem.W.Frag} {m : List Addr} {H H' : Hp} {x y : V} {xs : List V} {ds : List PyData} {w : Nat}
theorem Asks.grow (g : Grow [] H H') (h : Asks K H x y w ds) : Asks K H' x y w ds := by
  obtain ⟨l, xs, m, rfl, rfl, hw, hl, hd, len, low⟩ := h
  exact ⟨l, xs, m, rfl, rfl, hw, g.sqL hl, hd.grow (g.mono (by simp)), len, low⟩
end
theorem vint_ne {a b : Int} (h : a ≠ b) : decide (V.int a = V.int b) = false := decide_eq_false fun z => h (V.int.inj z)
def Kd.isN : Kd → Bool
  | .net => true | .small => true | _ => false
def ElOk (dp : Nat) (k : Kd) (f : Bool) (d : PyData) : Prop := okB (k.top dp) d = !f ∧ lowD d ∧ (f = false → k.isN = true → d = .int dp)
def ThOk (dp : Nat) : List Kd → List Bool → List PyData → Prop
  | [], [], [] => True
  | k :: ks, f :: fs, d :: ds => ElOk dp k f d ∧ ThOk dp ks fs ds
  | _, _, _ => False
theorem ThOk.app {dp : Nat} {k : Kd} {f : Bool} {d : PyData} (h : ElOk dp k f d) : ∀ {ks : List Kd} {fs : List Bool} {ds : List PyData}, ThOk dp ks fs ds → ThOk dp (ks ++ [k]) (fs ++ [f]) (ds ++ [d])
  | [], [], [], _ => ⟨h, trivial⟩
  | _ :: _, _ :: _, _ :: _, t => ⟨t.1, ThOk.app h t.2⟩
theorem ThOk.len {dp : Nat} : ∀ {ks : List Kd} {fs : List Bool} {ds : List PyData}, ThOk dp ks fs ds → ds.length = ks.length ∧ ∀ d ∈ ds, lowD d
  | [], [], [], _ => ⟨rfl, fun d h => nomatch h⟩
  | _ :: _, _ :: _, _ :: _, t => by
    have ih := ThOk.len t.2
    refine ⟨congrArg Nat.succ ih.1, fun d h => ?_⟩
    rcases List.mem_cons.mp h with rfl | h
    · exact t.1.2.1
    · exact ih.2 d h
theorem occ {H H' : Hp} {p : Addr} {m : List Addr} (g : Grow [p] H H') (pp : Pot H' p) (h : ∀ b ∈ m, H b ≠ none) : ∀ b ∈ m, H' b ≠ none := fun b hb z => by
  by_cases e : b = p
  · subst e; exact pot_ne pp b (by simp) z
  · exact h b hb (g.free (by simpa using e) z)
end L3

namespace L3
open PySem PySem.Spec PyProof.Rows L2
inductive Rs where | side | many | tok | val (v : V)
def comeD (k : Nat) (st : CSt) (d : PyData) : Rs × CSt := match withinD 0 ((2 ^ k : Nat) - 1) d, d with
  | true, .int i => if st.toks.length = 40 then (.many, st) else (.val (.int st.toks.length), ⟨st.ups, st.toks ++ [some (i.toNat, 0)], st.outs, st.gv⟩)
  | _, _ => (.side, st)
def goD (k : Nat) (st : CSt) (d : PyData) : Rs × CSt := match withinD 0 ((st.toks.length : Int) - 1) d, d with
  | true, .int i => match st.toks.getD i.toNat none with
    | some (l, b) => (.val (goV k st l b), goS k st i.toNat l b)
    | none => (.tok, st)
  | _, _ => (.tok, st)
def RsX (A0 A1 A2 : Addr) (m : List Addr) (Cn : Hp → CSt → Prop) (r : Rs × CSt) (H : Hp) (Q : VK) (E : XK) : Prop := match r.1 with
  | .side => ∀ e H', Grow [] H H' → E (.ref e) (some A0) H'
  | .many => ∀ e H', Grow [] H H' → E (.ref e) (some A1) H'
  | .tok => ∀ e H', Grow [] H H' → E (.ref e) (some A2) H'
  | .val v => ∀ H', Grow m H H' → Cn H' r.2 → Q v H'
structure Gd88 (k : Nat) (st : CSt) : Prop where
  ok : StOk k st
  t : st.toks.length ≤ 40
  g : st.gv.length ≤ 40
  o : ∀ v ∈ st.outs, v ≤ 40
def sp_come88 (A0 A1 A2 C : Addr) (K : PySem.W.Frag) : Sp := spX2 fun x y H Q E => ∃ (p lu lt lc lg : Addr) (k : Nat) (d : PyData) (m : List Addr) (st : CSt), x = .ref p ∧ Od K m H y d ∧ k ≤ 3 ∧ CtrAt K C k p lu lt lc lg H st ∧ Gd88 k st ∧ RsX A0 A1 A2 [lu, lt, lc, lg] (CtrAt K C k p lu lt lc lg) (comeD k st d) H Q E
def sp_go88 (A0 A1 A2 C : Addr) (K : PySem.W.Frag) : Sp := spX2 fun x y H Q E => ∃ (p lu lt lc lg : Addr) (k : Nat) (d : PyData) (m : List Addr) (st : CSt), x = .ref p ∧ Od K m H y d ∧ k ≤ 3 ∧ CtrAt K C k p lu lt lc lg H st ∧ Gd88 k st ∧ RsX A0 A1 A2 [lu, lt, lc, lg] (CtrAt K C k p lu lt lc lg) (goD k st d) H Q E
def RsAt (K : PySem.W.Frag) (H : Hp) (x : V) : Rs → Prop
  | .side => ∃ l, x = .ref l ∧ SqL K H l ([true, false, false].map V.bl)
  | .many => ∃ l, x = .ref l ∧ SqL K H l ([false, true, false].map V.bl)
  | .tok => ∃ l, x = .ref l ∧ SqL K H l ([false, false, true].map V.bl)
  | .val v => x = v
def stepD (k : Nat) (st : CSt) (c : Nat) (d : PyData) : Rs × CSt := if c = 0 then comeD k st d else goD k st d
def sp_told88 (C : Addr) (K : PySem.W.Frag) : Sp := sp2 fun x y H Q => ∃ (p lu lt lc lg t : Addr) (k c : Nat) (d : PyData) (v : V) (m : List Addr) (st : CSt), x = .ref p ∧ y = .ref t ∧ SqT K H t [.int c, v] ∧ Od K m H v d ∧ c ≤ 1 ∧ k ≤ 3 ∧ CtrAt K C k p lu lt lc lg H st ∧ Gd88 k st ∧ ∀ z H', Grow [lu, lt, lc, lg] H H' → CtrAt K C k p lu lt lc lg H' (stepD k st c d).2 → RsAt K H' z (stepD k st c d).1 → (∀ l, z = .ref l → H l = none) → Q z H'
def clsR (A0 A1 A2 : Addr) : Rs → Option Addr
  | .side => some A0 | .many => some A1 | .tok => some A2 | .val _ => none
theorem RsX_of {A0 A1 A2 : Addr} {m : List Addr} {Cn : Hp → CSt → Prop} {r : Rs × CSt} {H : Hp} {Q : VK} {E : XK} (h1 : ∀ c e H', clsR A0 A1 A2 r.1 = some c → Grow [] H H' → E (.ref e) (some c) H') (h2 : ∀ v H', r.1 = .val v → Grow m H H' → Cn H' r.2 → Q v H') : RsX A0 A1 A2 m Cn r H Q E := by
  obtain ⟨r1, r2⟩ := r
  cases r1 with
  | side => exact fun e H' g => h1 _ e H' rfl g
  | many => exact fun e H' g => h1 _ e H' rfl g
  | tok => exact fun e H' g => h1 _ e H' rfl g
  | val v => exact fun H' g c => h2 v H' rfl g c
theorem come_cases (k : Nat) (st : CSt) (d : PyData) : comeD k st d = (.side, st) ∨ comeD k st d = (.many, st) ∨ ∃ v st', comeD k st d = (.val v, st') := by
  unfold comeD
  cases hw : withinD 0 ((2 ^ k : Nat) - 1) d with
  | false => exact .inl rfl
  | true =>
    obtain ⟨i, rfl, _, _⟩ := within_int hw
    by_cases h : st.toks.length = 40
    · exact .inr (.inl (if_pos h))
    · exact .inr (.inr ⟨_, _, if_neg h⟩)
theorem go_cases (k : Nat) (st : CSt) (d : PyData) : goD k st d = (.tok, st) ∨ ∃ v st', goD k st d = (.val v, st') := by
  unfold goD
  cases hw : withinD 0 ((st.toks.length : Int) - 1) d with
  | false => exact .inl rfl
  | true =>
    obtain ⟨i, rfl, _, _⟩ := within_int hw
    have e : goD k st (.int i) = (match st.toks.getD i.toNat none with | some (l, b) => ((Rs.val (goV k st l b), goS k st i.toNat l b) : Rs × CSt) | none => (.tok, st)) := by unfold goD; rw [hw]
    unfold goD at e
    rw [hw] at e
    cases hg : st.toks.getD i.toNat none with
    | none => exact .inl (e.trans (by rw [hg]))
    | some lb =>
      obtain ⟨l, b⟩ := lb
      exact .inr ⟨goV k st l b, goS k st i.toNat l b, e.trans (by rw [hg])⟩
section
variable {A0 A1 A2 B B' : Addr} {m : List Addr} {Cn : Hp → CSt → Prop} {k : Nat} {st : CSt} {d : PyData} {H : Hp} {Q : VK} {E : XK}
theorem RsX_come (h : RsX A0 A1 A2 m Cn (comeD k st d) H Q E) : RsX A0 A1 B m Cn (comeD k st d) H Q E := by
  rcases come_cases k st d with e | e | ⟨v, st', e⟩ <;> rw [e] at h ⊢ <;> exact h
theorem RsX_go (h : RsX A0 A1 A2 m Cn (goD k st d) H Q E) : RsX B B' A2 m Cn (goD k st d) H Q E := by
  rcases go_cases k st d with e | ⟨v, st', e⟩ <;> rw [e] at h ⊢ <;> exact h
theorem step_st {c : Nat} {x : Addr} (h : clsR A0 A1 A2 (stepD k st c d).1 = some x) : (stepD k st c d).2 = st := by
  unfold stepD at h ⊢
  by_cases e : c = 0
  · rw [if_pos e] at h ⊢
    rcases come_cases k st d with e | e | ⟨v, st', e⟩ <;> rw [e] at h ⊢
    cases h
  · rw [if_neg e] at h ⊢
    rcases go_cases k st d with e | ⟨v, st', e⟩ <;> rw [e] at h ⊢
    cases h
end
theorem step_val {k : Nat} {st : CSt} {c : Nat} {d : PyData} {v : V} (h : (stepD k st c d).1 = .val v) : v = .non ∨ ∃ n : Nat, v = .int n := by
  unfold stepD at h
  by_cases e : c = 0
  · rw [if_pos e] at h
    unfold comeD at h
    cases hw : withinD 0 ((2 ^ k : Nat) - 1) d with
    | false => rw [hw] at h; cases h
    | true =>
      obtain ⟨i, rfl, _, _⟩ := within_int hw
      rw [hw] at h
      by_cases h4 : st.toks.length = 40
      · simp only [if_pos h4] at h; cases h
      · simp only [if_neg h4] at h; cases h; exact .inr ⟨_, rfl⟩
  · rw [if_neg e] at h
    unfold goD at h
    cases hw : withinD 0 ((st.toks.length : Int) - 1) d with
    | false => rw [hw] at h; cases h
    | true =>
      obtain ⟨i, rfl, _, _⟩ := within_int hw
      rw [hw] at h
      cases hg : st.toks.getD i.toNat none with
      | none => simp only [hg] at h; cases h
      | some lb =>
        simp only [hg] at h
        cases h
        unfold goV
        cases (tcm (rowsT k) lb.1 lb.2 ((rowsT k).length - lb.2)).head? with
        | none => exact .inr ⟨_, rfl⟩
        | some _ => exact .inl rfl
def tupI (ns : List Int) : PyData := .tuple (ns.map .int)
def stD (st : CSt) : PyData := .tuple [.int ((st.toks.length : Int) - (st.gv.length : Int)), tupI (intsN st.outs), tupI (sortI (intsN st.gv))]
def sp_state88 (C : Addr) (K : PySem.W.Frag) : Sp := sp1 fun x H Q => ∃ (p lu lt lc lg : Addr) (k : Nat) (st : CSt), x = .ref p ∧ CtrAt K C k p lu lt lc lg H st ∧ Gd88 k st ∧ ∀ y H', Grow [] H H' → (∀ m, Od K m H' y (stD st)) → Q y H'
def sp_odd88 (K : PySem.W.Frag) : Sp := sp2 fun x y H Q => ∃ (p : Addr) (n : Nat) (m : List Addr), x = .ref p ∧ Pot H p ∧ y = .int n ∧ n ≤ 40 ∧ p ∈ m ∧ (∀ b ∈ m, H b ≠ none) ∧ ∀ v d H', withinD 0 ((n : Int) - 1) d = false → Grow [p] H H' → Pot H' p → Od K m H' v d → Q v H'
theorem Ods.ints {K : PySem.W.Frag} {m : List Addr} {H : Hp} : ∀ {ns : List Int}, Ods K m H (ns.map V.int) (ns.map .int)
  | [] => .nil
  | _ :: _ => .cons (.int _) Ods.ints
theorem out_neg {n i : Int} (h : i < 0) : withinD 0 n (.int i) = false := by show (decide (0 ≤ i) && decide (i ≤ n)) = false; rw [decide_eq_false (by omega)]; rfl
theorem out_up {n i : Int} (h : n < i) : withinD 0 n (.int i) = false := by show (decide (0 ≤ i) && decide (i ≤ n)) = false; rw [decide_eq_false (show ¬ i ≤ n by omega), Bool.and_false]
section
variable {X : Cx} {K : PySem.W.Frag}
def rInM (K : PySem.W.Frag) : R2 := fun x y H Q => rIn K false x y H Q ∨ ∃ (a t b : Addr) (z : Str) (ds : List PyData), x = .ref a ∧ y = .ref t ∧ SqT K H t [.str z, .ref b] ∧ Dq K H (.ref a) (.list ds) ∧ Dq K H (.ref b) (.list ds) ∧ PyData.depthAll ds ≤ 50 ∧ Q (.bl true) H
theorem op_inM {k : Nat} (hK : X.K = K) (hr : Room k X.A) : OpR X (compareOp .In) (rInM K) := by
  subst hK
  intro pins s σ H x y v u Q I rx ry h
  rcases h with h | ⟨a, t, b, z, ds, rfl, rfl, ht, ha, hb, hd, q⟩
  · exact op_in_seq pins s σ H x y v u Q I rx ry h
  have hu := hr.un
  obtain ⟨its, r, pl, _⟩ := I.tuple ht
  obtain ⟨u1, u2, rfl, r1, r2⟩ : ∃ u1 u2, its = [u1, u2] ∧ RelV (.str z) u1 ∧ RelV (.ref b) u2 := by
    cases r with | cons r1 r => cases r with | cons r2 r => cases r; exact ⟨_, _, rfl, r1, r2⟩
  obtain ⟨tk, rfl⟩ := r1
  cases (show v = Value.ref a from rx)
  cases (show u = Value.ref t from ry)
  cases (show u2 = Value.ref b from r2)
  have hl : ∃ items, s.heap.IsList a items := by
    cases ha with
    | lst hs _ =>
      obtain ⟨its, _, t1, _⟩ := I.list hs
      exact ⟨_, t1.isList⟩
  obtain ⟨items, hl⟩ := hl
  refine SeqAt.in_tupleAt (fun w => match w with | .str _ _ => false | _ => true) pl (fun w hw => ?_) ⟨.bl true, H, I, by show Value.bool _ = Value.bool true; simp, q⟩
  simp only [List.mem_toArray, List.mem_cons, List.not_mem_nil, or_false] at hw
  rcases hw with rfl | rfl
  · exact SeqAt.EqAt.str_list _ _ hl (by show X.A.units + 1 < cLine; omega)
  · exact dq_eq I hb ha rfl rfl (by show X.A.units + 1 + (PyData.depthAll ds + 1) < cLine; omega)
def rEqM (K : PySem.W.Frag) : R2 := fun x y H Q => rEq x y H Q ∨ ∃ (a : Addr) (z : Str) (xs : List V), x = .ref a ∧ y = .str z ∧ SqL K H a xs ∧ Q (.bl false) H
theorem op_eqM {k : Nat} (hK : X.K = K) (hr : Room k X.A) : OpR X (compareOp .Eq) (rEqM K) := by
  subst hK
  intro pins s σ H x y v u Q I rx ry h
  rcases h with h | ⟨a, z, xs, rfl, rfl, ha, q⟩
  · exact op_eq pins s σ H x y v u Q I rx ry h
  have hu := hr.un
  cases (show v = Value.ref a from rx)
  obtain ⟨tk, rfl⟩ := ry
  obtain ⟨its, _, t1, _⟩ := I.list ha
  exact SeqAt.RcAt.list_str _ _ t1.isList (by omega) _ _ _ _ ⟨.bl false, H, I, rfl, q⟩
theorem kit_lst {K : PySem.W.Frag} : ∀ {d : PyData}, PySem.W.kitOne K (.type (tyD d)) (.type "list") = some (match d with | .list _ => true | _ => false)
  | .none => rfl
  | .bool _ => rfl
  | .int _ => rfl
  | .str _ => rfl
  | .list _ => rfl
  | .tuple _ => rfl
  | .dict _ => rfl
end
structure OutOk (st : CSt) (os : List Nat) : Prop where
  a : ∀ t ∈ os, st.toks[t]? = some none
  b : ∀ t : Nat, st.toks[t]? = some none → t ∈ os
  l : os.length = st.gv.length
def sp_done88 (C : Addr) (K : PySem.W.Frag) : Sp := sp5 fun x1 x2 x3 x4 x5 H Q => ∃ (p c lu lt lc lg lo : Addr) (k : Nat) (st : CSt) (os : List Nat) (m : List Addr), (∀ b ∈ m, H b ≠ none) ∧ (∀ b ∈ [p, lu, lt, lc, lg], b ∈ m) ∧ x1 = .ref p ∧ Pot H p ∧ x2 = .ref c ∧ k ≤ 3 ∧ CtrAt K C k c lu lt lc lg H st ∧ Gd88 k st ∧ x3 = .int (2 ^ k : Nat) ∧ x4 = .int st.toks.length ∧ x5 = .ref lo ∧ H lo = some (.lst (natsV os)) ∧ OutOk st os ∧ p ∉ [c, lu, lt, lc, lg] ∧ lo ≠ p ∧
  ∀ (r dd : Addr) (w : Nat) (v f : V) (d : PyData) (H' : Hp), w ≤ 1 → Grow [p, lu, lt, lc, lg] H H' → Pot H' p → CtrAt K C k c lu lt lc lg H' (stepD k st w d).2 → SqT K H' r [.ref dd, f] → SqT K H' dd [.int w, v] → Od K m H' v d → RsAt K H' f (stepD k st w d).1 → (∀ l, f = .ref l → l ∉ m) → Q (.ref r) H'
def rsB : Rs → List Bool
  | .side => [true, false, false] | .many => [false, true, false] | .tok => [false, false, true] | .val _ => []
def DuAt (m : List Addr) (H : Hp) (x : V) (r : Rs) : Prop := (∃ l, x = .ref l ∧ H l = some (.lst ((rsB r).map V.bl)) ∧ l ∉ m ∧ ∀ v, r ≠ .val v) ∨ (∃ n : Nat, x = .int n ∧ r = .val (.int n)) ∨ (x = .str "any" ∧ ∃ v, r = .val v ∧ (v = .non ∨ ∃ n : Nat, v = .int n))
theorem come_side {k : Nat} {st : CSt} {d : PyData} (h : withinD 0 (((2 ^ k : Nat) : Int) - 1) d = false) : comeD k st d = (.side, st) := by unfold comeD; rw [h]
theorem go_tok {k : Nat} {st : CSt} {d : PyData} (h : withinD 0 ((st.toks.length : Int) - 1) d = false) : goD k st d = (.tok, st) := by unfold goD; rw [h]
theorem go_out {k : Nat} {st : CSt} {t : Nat} (h : st.toks[t]? = some none) : goD k st (.int t) = (.tok, st) := by
  have hl := (List.getElem?_eq_some_iff.mp h).1
  unfold goD
  rw [show withinD 0 ((st.toks.length : Int) - 1) (.int t) = true by show (decide ((0 : Int) ≤ t) && decide ((t : Int) ≤ (st.toks.length : Int) - 1)) = true; rw [decide_eq_true (by omega), decide_eq_true (by omega)]; rfl]
  show (match st.toks.getD ((t : Int)).toNat none with | some (l, b) => ((Rs.val (goV k st l b), goS k st ((t : Int)).toNat l b) : Rs × CSt) | none => (.tok, st)) = _
  rw [Int.toNat_natCast, List.getD_eq_getElem?_getD, h]; rfl
theorem go_val {k : Nat} {st : CSt} {t : Nat} (hl : t < st.toks.length) (h : st.toks[t]? ≠ some none) : ∃ v, (goD k st (.int t)).1 = .val v ∧ (v = .non ∨ ∃ n : Nat, v = .int n) := by
  obtain ⟨o, ho⟩ : ∃ o, st.toks[t]? = some o := ⟨_, List.getElem?_eq_getElem hl⟩
  cases o with
  | none => exact absurd ho h
  | some lb =>
    obtain ⟨l, b⟩ := lb
    have e : goD k st (.int t) = (.val (goV k st l b), goS k st t l b) := by
      unfold goD
      rw [show withinD 0 ((st.toks.length : Int) - 1) (.int t) = true by show (decide ((0 : Int) ≤ t) && decide ((t : Int) ≤ (st.toks.length : Int) - 1)) = true; rw [decide_eq_true (by omega), decide_eq_true (by omega)]; rfl]
      show (match st.toks.getD ((t : Int)).toNat none with | some (l, b) => ((Rs.val (goV k st l b), goS k st ((t : Int)).toNat l b) : Rs × CSt) | none => (.tok, st)) = _
      rw [Int.toNat_natCast, List.getD_eq_getElem?_getD, ho]; rfl
    refine ⟨goV k st l b, by rw [e], ?_⟩
    unfold goV
    cases (tcm (rowsT k) l b ((rowsT k).length - b)).head? with
    | none => exact .inr ⟨_, rfl⟩
    | some _ => exact .inl rfl
theorem come_in {k : Nat} {st : CSt} {l : Nat} (h : l < 2 ^ k) : comeD k st (.int l) = if st.toks.length = 40 then (.many, st) else (.val (.int st.toks.length), ⟨st.ups, st.toks ++ [some (l, 0)], st.outs, st.gv⟩) := by
  unfold comeD
  rw [show withinD 0 (((2 ^ k : Nat) : Int) - 1) (.int l) = true by show (decide ((0 : Int) ≤ l) && decide ((l : Int) ≤ ((2 ^ k : Nat) : Int) - 1)) = true; rw [decide_eq_true (by omega), decide_eq_true (by omega)]; rfl]
  rfl
theorem RsAt.grow {K : PySem.W.Frag} {H H' : Hp} {x : V} (g : Grow [] H H') : ∀ {r : Rs}, RsAt K H x r → RsAt K H' x r
  | .side, ⟨l, e, h⟩ => ⟨l, e, g.sqL h⟩
  | .many, ⟨l, e, h⟩ => ⟨l, e, g.sqL h⟩
  | .tok, ⟨l, e, h⟩ => ⟨l, e, g.sqL h⟩
  | .val _, h => h
theorem inV_n {i : Int} {s : Str} : inV (V.int i) [V.str s, V.int i] = true := by simp [inV, eqV]
theorem inV_s {z : V} {s : Str} : inV (V.str s) [V.str s, z] = true := by simp [inV, eqV]
theorem RsAt.lst {K : PySem.W.Frag} {H : Hp} {x : V} : ∀ {r : Rs}, RsAt K H x r → (∀ v, r ≠ .val v) → ∃ b, x = .ref b ∧ SqL K H b ((rsB r).map V.bl)
  | .side, h, _ => h
  | .many, h, _ => h
  | .tok, h, _ => h
  | .val v, _, n => absurd rfl (n v)
section
variable {K : PySem.W.Frag} {m : List Addr} {H : Hp}
theorem dq_intsO : ∀ {ns : List Int} {xs : List V}, Ods K m H xs (ns.map .int) → DqAll K H xs (ns.map .int)
  | [], _, h => by cases h; exact .nil
  | i :: ns, _, h => by
    cases h with | cons a h => cases a; exact .cons (.int _) (dq_intsO h)
theorem dq_tupI {ns : List Int} {x : V} (h : Od K m H x (tupI ns)) : Dq K H x (tupI ns) := by
  cases h with | tup hs ha => exact .tup hs (dq_intsO ha)
theorem dq_st {st : CSt} {x : V} (h : Od K m H x (stD st)) : Dq K H x (stD st) ∧ ∃ a, x = .ref a := by
  obtain ⟨a, xs, rfl, hs, ha⟩ := h.inv_tup
  obtain ⟨y1, y2, y3, rfl, o1, o2, o3⟩ := ha.inv3
  cases o1
  exact ⟨.tup hs (.cons (.int _) (.cons (dq_tupI o2) (.cons (dq_tupI o3) .nil))), a, rfl⟩
theorem depth_ints : ∀ {ns : List Int}, PyData.depthAll (ns.map .int) = 0
  | [] => rfl
  | i :: ns => by show max 0 (PyData.depthAll (ns.map .int)) = 0; rw [depth_ints]; rfl
theorem depth_st {st : CSt} : (stD st).depth ≤ 100 := by
  show max 0 (max (PyData.depthAll ((intsN st.outs).map .int) + 1) (max (PyData.depthAll ((sortI (intsN st.gv)).map .int) + 1) 0)) + 1 ≤ 100
  rw [depth_ints, depth_ints]; decide
theorem dq_bls : ∀ {bs : List Bool}, DqAll K H (bs.map V.bl) (bs.map .bool)
  | [] => .nil
  | _ :: _ => .cons (.bl _) dq_bls
theorem depth_bls : ∀ {bs : List Bool}, PyData.depthAll (bs.map .bool) = 0
  | [] => rfl
  | i :: bs => by show max 0 (PyData.depthAll (bs.map .bool)) = 0; rw [depth_bls]; rfl
end
theorem tIfS_c88 {c : TT} {t u : TS} {D : Ends} {σ : L2.St} {H : Hp} (Good : Bool → Hp → Prop) (hc : ∀ K : Bool → Hp → Prop, (∀ b H', Good b H' → K b H') → c σ H K) (hr : ∀ b H', Good b H' → if b = true then t D σ H' else u D σ H') : tIfS c t u D σ H := hc _ hr
end L3

namespace L3
open PySem PySem.Spec PyProof.Rows L2
structure Gs88 (k : Nat) (st : CSt) : Prop where
  ok : StOk k st
  t : st.toks.length ≤ 40
  n : st.gv.length + st.toks.countP Option.isSome = st.toks.length
  o : ∀ v ∈ st.outs, v ≤ st.gv.length
theorem Gs88.gd {k : Nat} {st : CSt} (h : Gs88 k st) : Gd88 k st := by
  have e := h.n
  have t := h.t
  exact ⟨h.ok, h.t, by omega, fun v hv => by have := h.o v hv; omega⟩
theorem Gs88.come {k : Nat} {st : CSt} {d : PyData} (h : Gs88 k st) : Gs88 k (comeD k st d).2 := by
  unfold comeD
  cases hw : withinD 0 ((2 ^ k : Nat) - 1) d with
  | false => exact h
  | true =>
    obtain ⟨i, rfl, i0, i1⟩ := within_int hw
    show Gs88 k (if st.toks.length = 40 then ((.many, st) : Rs × CSt) else (.val (.int st.toks.length), ⟨st.ups, st.toks ++ [some (i.toNat, 0)], st.outs, st.gv⟩)).2
    by_cases h40 : st.toks.length = 40
    · rw [if_pos h40]; exact h
    rw [if_neg h40]
    have t := h.t
    have n := h.n
    refine ⟨⟨h.ok.u, h.ok.o, fun l b hm => ?_⟩, ?_, ?_, h.o⟩
    · rcases List.mem_append.mp hm with hm | hm
      · exact h.ok.t l b hm
      · have e := Option.some.inj (List.mem_singleton.mp hm)
        cases e
        exact ⟨by omega, Nat.zero_le _⟩
    · show (st.toks ++ [some (i.toNat, 0)]).length ≤ 40
      rw [List.length_append, List.length_singleton]; omega
    · show st.gv.length + (st.toks ++ [some (i.toNat, 0)]).countP Option.isSome = (st.toks ++ [some (i.toNat, 0)]).length
      rw [List.countP_append, List.length_append, List.length_singleton]
      show st.gv.length + (st.toks.countP Option.isSome + 1) = _
      omega
theorem Gs88.goSt {k : Nat} {st : CSt} {t l b : Nat} (k3 : k ≤ 3) (h : Gs88 k st) (ht : st.toks[t]? = some (some (l, b))) : Gs88 k (goS k st t l b) := by
  have htl := (List.getElem?_eq_some_iff.mp ht).1
  have hte := (List.getElem?_eq_some_iff.mp ht).2
  have hm := h.ok.t l b (List.mem_of_getElem? ht)
  have ok := h.ok.go (t := t) (l := l) k3 hm.2
  have n := h.n
  have tt := h.t
  have hp : 0 < st.toks.countP Option.isSome := List.countP_pos_iff.mpr ⟨_, List.mem_of_getElem? ht, rfl⟩
  revert ok
  unfold L3.goS
  cases (tcm (rowsT k) l b ((rowsT k).length - b)).head? with
  | some i =>
    intro ok
    refine ⟨ok, ?_, ?_, h.o⟩
    · show (st.toks.set t _).length ≤ 40
      rw [List.length_set]; exact tt
    · show st.gv.length + (st.toks.set t _).countP Option.isSome = (st.toks.set t _).length
      rw [List.countP_set htl, List.length_set, hte]
      show st.gv.length + (st.toks.countP Option.isSome - 1 + 1) = _
      omega
  | none =>
    intro ok
    refine ⟨ok, ?_, ?_, ?_⟩
    · show (st.toks.set t _).length ≤ 40
      rw [List.length_set]; exact tt
    · show (st.gv ++ [outN k st l]).length + (st.toks.set t none).countP Option.isSome = (st.toks.set t none).length
      rw [List.countP_set htl, List.length_set, hte, List.length_append, List.length_singleton]
      show st.gv.length + 1 + (st.toks.countP Option.isSome - 1 + 0) = _
      omega
    · show ∀ v ∈ st.outs.set _ _, v ≤ (st.gv ++ [outN k st l]).length
      intro v hv
      rw [List.length_append, List.length_singleton]
      rcases List.mem_or_eq_of_mem_set hv with hv | rfl
      · have := h.o v hv; omega
      · rw [List.getD_eq_getElem?_getD]
        cases hg : st.outs[(lineR k).idxOf l]? with
        | none => show 0 + 1 ≤ _; omega
        | some w => have := h.o w (List.mem_of_getElem? hg); show w + 1 ≤ _; omega
theorem Gs88.step {k : Nat} {st : CSt} {w : Nat} {d : PyData} (k3 : k ≤ 3) (h : Gs88 k st) : Gs88 k (stepD k st w d).2 := by
  unfold stepD
  by_cases e : w = 0
  · rw [if_pos e]; exact h.come
  rw [if_neg e]
  unfold goD
  cases hw : withinD 0 ((st.toks.length : Int) - 1) d with
  | false => exact h
  | true =>
    obtain ⟨i, rfl, i0, i1⟩ := within_int hw
    show Gs88 k (match st.toks.getD i.toNat none with | some (l, b) => ((Rs.val (goV k st l b), goS k st i.toNat l b) : Rs × CSt) | none => (.tok, st)).2
    cases hg : st.toks.getD i.toNat none with
    | none => exact h
    | some lb =>
      obtain ⟨l, b⟩ := lb
      refine Gs88.goSt k3 h ?_
      rw [List.getD_eq_getElem?_getD] at hg
      cases hq : st.toks[i.toNat]? with
      | none => rw [hq] at hg; cases hg
      | some o => rw [hq] at hg; exact congrArg some hg
def outStep (os : List Nat) (w : Nat) (d : PyData) (r : Rs) : List Nat := match w, d, r with
  | 1, .int i, .val (.int _) => os ++ [i.toNat]
  | _, _, _ => os
theorem OutOk.come {k : Nat} {st : CSt} {d : PyData} {os : List Nat} (h : OutOk st os) : OutOk (comeD k st d).2 os := by
  unfold comeD
  cases hw : withinD 0 ((2 ^ k : Nat) - 1) d with
  | false => exact h
  | true =>
    obtain ⟨i, rfl, i0, i1⟩ := within_int hw
    show OutOk (if st.toks.length = 40 then ((.many, st) : Rs × CSt) else (.val (.int st.toks.length), ⟨st.ups, st.toks ++ [some (i.toNat, 0)], st.outs, st.gv⟩)).2 os
    by_cases h40 : st.toks.length = 40
    · rw [if_pos h40]; exact h
    rw [if_neg h40]
    refine ⟨fun t ht => ?_, fun t ht => ?_, h.l⟩
    · have z := h.a t ht
      have hl := (List.getElem?_eq_some_iff.mp z).1
      show (st.toks ++ [some (i.toNat, 0)])[t]? = some none
      rw [List.getElem?_append_left hl]; exact z
    · have ht' : (st.toks ++ [some (i.toNat, 0)])[t]? = some none := ht
      by_cases hl : t < st.toks.length
      · rw [List.getElem?_append_left hl] at ht'; exact h.b t ht'
      · rw [List.getElem?_append_right (by omega)] at ht'
        have hm := List.mem_of_getElem? ht'
        cases List.mem_singleton.mp hm
theorem OutOk.setS {st : CSt} {os : List Nat} {t : Nat} {x : Nat × Nat} {us : List Bool} (h : OutOk st os) (hn : ∃ lb, st.toks[t]? = some (some lb)) : OutOk ⟨us, st.toks.set t (some x), st.outs, st.gv⟩ os := by
  obtain ⟨lb, hn⟩ := hn
  have hl := (List.getElem?_eq_some_iff.mp hn).1
  refine ⟨fun s hs => ?_, fun s hs => ?_, h.l⟩
  · have z := h.a s hs
    show (st.toks.set t (some x))[s]? = some none
    rw [List.getElem?_set_ne (fun e => by rw [e, z] at hn; cases hn)]; exact z
  · have hs' : (st.toks.set t (some x))[s]? = some none := hs
    by_cases e : t = s
    · subst e
      rw [List.getElem?_set_self hl] at hs'; cases hs'
    · rw [List.getElem?_set_ne e] at hs'; exact h.b s hs'
theorem OutOk.setN {st : CSt} {os : List Nat} {t n : Nat} {us : List Bool} {ou : List Nat} (h : OutOk st os) (hl : t < st.toks.length) : OutOk ⟨us, st.toks.set t none, ou, st.gv ++ [n]⟩ (os ++ [t]) := by
  refine ⟨fun s hs => ?_, fun s hs => ?_, by rw [List.length_append, h.l]; show _ = (st.gv ++ [n]).length; rw [List.length_append]; rfl⟩
  · show (st.toks.set t none)[s]? = some none
    by_cases e : t = s
    · subst e; rw [List.getElem?_set_self hl]
    · rw [List.getElem?_set_ne e]
      rcases List.mem_append.mp hs with hs | hs
      · exact h.a s hs
      · exact absurd (List.mem_singleton.mp hs).symm e
  · have hs' : (st.toks.set t none)[s]? = some none := hs
    by_cases e : t = s
    · subst e; simp
    · rw [List.getElem?_set_ne e] at hs'; exact List.mem_append_left _ (h.b s hs')
theorem OutOk.step {k w : Nat} {st : CSt} {d : PyData} {os : List Nat} (w1 : w ≤ 1) (h : OutOk st os) : OutOk (stepD k st w d).2 (outStep os w d (stepD k st w d).1) := by
  rcases (by omega : w = 0 ∨ w = 1) with rfl | rfl
  · exact h.come
  show OutOk (goD k st d).2 (outStep os 1 d (goD k st d).1)
  unfold goD
  cases hw : withinD 0 ((st.toks.length : Int) - 1) d with
  | false => cases d <;> exact h
  | true =>
    obtain ⟨i, rfl, i0, i1⟩ := within_int hw
    show OutOk (match st.toks.getD i.toNat none with | some (l, b) => ((Rs.val (goV k st l b), goS k st i.toNat l b) : Rs × CSt) | none => (.tok, st)).2 (outStep os 1 (.int i) (match st.toks.getD i.toNat none with | some (l, b) => ((Rs.val (goV k st l b), goS k st i.toNat l b) : Rs × CSt) | none => (.tok, st)).1)
    have hl : i.toNat < st.toks.length := by omega
    cases hg : st.toks.getD i.toNat none with
    | none => exact h
    | some lb =>
      obtain ⟨l, b⟩ := lb
      have ht : st.toks[i.toNat]? = some (some (l, b)) := by
        rw [List.getD_eq_getElem?_getD] at hg
        cases hq : st.toks[i.toNat]? with
        | none => rw [hq] at hg; cases hg
        | some o => rw [hq] at hg; exact congrArg some hg
      show OutOk (goS k st i.toNat l b) (outStep os 1 (.int i) (.val (goV k st l b)))
      unfold goS goV
      cases (tcm (rowsT k) l b ((rowsT k).length - b)).head? with
      | some j => exact h.setS ⟨_, ht⟩
      | none => exact h.setN hl
end L3

namespace L3
open PySem PySem.Spec PyProof.Rows L2
def stZ (k : Nat) : CSt := ⟨List.replicate (rowsT k).length true, [], List.replicate (2 ^ k) 0, []⟩
structure Gt88 (k : Nat) (st : CSt) : Prop where
  gs : Gs88 k st
  gb : ∀ v ∈ st.gv, v ≤ 1000
theorem Gt88.base {k : Nat} : Gt88 k (stZ k) :=
  ⟨⟨⟨List.length_replicate .., List.length_replicate .., fun l b h => nomatch h⟩, Nat.zero_le _, rfl, fun v hv => by rw [List.eq_of_mem_replicate hv]; exact Nat.zero_le _⟩, fun v h => nomatch h⟩
theorem OutOk.base {k : Nat} : OutOk (stZ k) [] := ⟨fun _ h => absurd h (by simp), fun t h => absurd h (by simp [stZ]), rfl⟩
theorem lineR_len {k : Nat} (k3 : k ≤ 3) : (lineR k).length ≤ 8 := by
  rcases (by omega : k = 0 ∨ k = 1 ∨ k = 2 ∨ k = 3) with rfl | rfl | rfl | rfl <;> decide +kernel
theorem Gt88.step {k : Nat} {st : CSt} {w : Nat} {d : PyData} (k3 : k ≤ 3) (h : Gt88 k st) : Gt88 k (stepD k st w d).2 := by
  refine ⟨h.gs.step k3, ?_⟩
  unfold stepD
  by_cases e : w = 0
  · rw [if_pos e]
    unfold comeD
    cases hw : withinD 0 ((2 ^ k : Nat) - 1) d with
    | false => exact h.gb
    | true =>
      obtain ⟨i, rfl, i0, i1⟩ := within_int hw
      show ∀ v ∈ (if st.toks.length = 40 then ((.many, st) : Rs × CSt) else (.val (.int st.toks.length), ⟨st.ups, st.toks ++ [some (i.toNat, 0)], st.outs, st.gv⟩)).2.gv, v ≤ 1000
      by_cases h4 : st.toks.length = 40
      · rw [if_pos h4]; exact h.gb
      · rw [if_neg h4]; exact h.gb
  rw [if_neg e]
  unfold goD
  cases hw : withinD 0 ((st.toks.length : Int) - 1) d with
  | false => exact h.gb
  | true =>
    obtain ⟨i, rfl, i0, i1⟩ := within_int hw
    show ∀ v ∈ (match st.toks.getD i.toNat none with | some (l, b) => ((Rs.val (goV k st l b), goS k st i.toNat l b) : Rs × CSt) | none => (.tok, st)).2.gv, v ≤ 1000
    cases hg : st.toks.getD i.toNat none with
    | none => exact h.gb
    | some lb =>
      show ∀ v ∈ (goS k st i.toNat lb.1 lb.2).gv, v ≤ 1000
      unfold goS
      cases (tcm (rowsT k) lb.1 lb.2 ((rowsT k).length - lb.2)).head? with
      | some _ => exact h.gb
      | none =>
        show ∀ v ∈ st.gv ++ [outN k st lb.1], v ≤ 1000
        intro v hv
        rcases List.mem_append.mp hv with hv | hv
        · exact h.gb v hv
        · rw [List.mem_singleton.mp hv]
          unfold outN
          have h1 : (lineR k).idxOf lb.1 ≤ (lineR k).length := List.idxOf_le_length
          have h2 := lineR_len k3
          have h3 : st.outs.getD ((lineR k).idxOf lb.1) 0 ≤ 40 := by
            rw [List.getD_eq_getElem?_getD]
            cases hq : st.outs[(lineR k).idxOf lb.1]? with
            | none => exact Nat.zero_le _
            | some z => exact h.gs.gd.o z (List.mem_of_getElem? hq)
          have h4 : st.outs.getD ((lineR k).idxOf lb.1) 0 * 2 ^ k ≤ 40 * 8 := Nat.mul_le_mul h3 (pow8 k3)
          omega
def runS (k : Nat) (st : CSt) : List (Nat × PyData) → CSt
  | [] => st
  | (w, d) :: ws => runS k (stepD k st w d).2 ws
def runR (k : Nat) (st : CSt) : List (Nat × PyData) → List Rs
  | [] => []
  | (w, d) :: ws => (stepD k st w d).1 :: runR k (stepD k st w d).2 ws
theorem runS_snoc {k w : Nat} {d : PyData} : ∀ {ws : List (Nat × PyData)} {st : CSt}, runS k st (ws ++ [(w, d)]) = (stepD k (runS k st ws) w d).2
  | [], _ => rfl
  | (_, _) :: ws, _ => runS_snoc (ws := ws)
theorem runR_snoc {k w : Nat} {d : PyData} : ∀ {ws : List (Nat × PyData)} {st : CSt}, runR k st (ws ++ [(w, d)]) = runR k st ws ++ [(stepD k (runS k st ws) w d).1]
  | [], _ => rfl
  | (_, _) :: ws, _ => congrArg (_ :: ·) (runR_snoc (ws := ws))
theorem runR_len {k : Nat} : ∀ {ws : List (Nat × PyData)} {st : CSt}, (runR k st ws).length = ws.length
  | [], _ => rfl
  | (_, _) :: ws, _ => congrArg (· + 1) (runR_len (ws := ws))
theorem runS_gt {k : Nat} (k3 : k ≤ 3) : ∀ {ws : List (Nat × PyData)} {st : CSt}, Gt88 k st → Gt88 k (runS k st ws)
  | [], _, h => h
  | (_, _) :: ws, _, h => runS_gt k3 (ws := ws) (h.step k3)
theorem runR_val {k : Nat} : ∀ {ws : List (Nat × PyData)} {st : CSt} {v : V}, .val v ∈ runR k st ws → v = .non ∨ ∃ n : Nat, v = .int n
  | [], _, _, h => nomatch h
  | (_, _) :: ws, _, _, h => by
    rcases List.mem_cons.mp h with h | h
    · exact step_val h.symm
    · exact runR_val (ws := ws) h
def rsD : Rs → PyData
  | .side => .list ([true, false, false].map .bool)
  | .many => .list ([false, true, false].map .bool)
  | .tok => .list ([false, false, true].map .bool)
  | .val (.int i) => .int i
  | .val _ => .none
section
variable {K : PySem.W.Frag} {m : List Addr} {H H' : Hp}
theorem RsAt.dq {x : V} : ∀ {r : Rs}, RsAt K H x r → (∀ v, r = .val v → v = .non ∨ ∃ n : Nat, v = .int n) → Dq K H x (rsD r)
  | .side, ⟨_, e, h⟩, _ => by subst e; exact .lst h dq_bls
  | .many, ⟨_, e, h⟩, _ => by subst e; exact .lst h dq_bls
  | .tok, ⟨_, e, h⟩, _ => by subst e; exact .lst h dq_bls
  | .val v, h, hv => by
    obtain rfl : x = v := h
    rcases hv x rfl with rfl | ⟨n, rfl⟩
    · exact .non
    · exact .int _
theorem rsD_depth {r : Rs} : (rsD r).depth ≤ 1 := by
  cases r with
  | side => decide
  | many => decide
  | tok => decide
  | val v => cases v <;> exact Nat.zero_le _
theorem rsD_depths : ∀ {rs : List Rs}, PyData.depthAll (rs.map rsD) ≤ 1
  | [] => Nat.zero_le _
  | r :: rs => Nat.max_le.mpr ⟨rsD_depth, rsD_depths⟩
def RsM (K : PySem.W.Frag) (m : List Addr) (H : Hp) (x : V) (r : Rs) : Prop := RsAt K H x r ∧ ∀ l, x = .ref l → l ∉ m
theorem sqL_keep {a : Addr} {xs : List V} (g : Grow m H H') (n : a ∉ m) (h : SqL K H a xs) : SqL K H' a xs := by
  rcases h with (h | ⟨o, h⟩) | h
  · exact .inl (.inl (g.keep _ _ n h))
  · exact .inl (.inr ⟨o, g.frz _ _ _ h⟩)
  · exact .inr h
theorem RsM.grow {x : V} (g : Grow m H H') : ∀ {r : Rs}, RsM K m H x r → RsM K m H' x r
  | .side, ⟨⟨l, e, h⟩, n⟩ => ⟨⟨l, e, sqL_keep g (n l e) h⟩, n⟩
  | .many, ⟨⟨l, e, h⟩, n⟩ => ⟨⟨l, e, sqL_keep g (n l e) h⟩, n⟩
  | .tok, ⟨⟨l, e, h⟩, n⟩ => ⟨⟨l, e, sqL_keep g (n l e) h⟩, n⟩
  | .val _, h => h
theorem RsMs.grow (g : Grow m H H') {xs : List V} {rs : List Rs} (h : AllR (RsM K m H) xs rs) : AllR (RsM K m H') xs rs := h.imp fun _ _ r => r.grow g
theorem RsMs.dq : ∀ {xs : List V} {rs : List Rs}, AllR (RsM K m H) xs rs → (∀ v, .val v ∈ rs → v = .non ∨ ∃ n : Nat, v = .int n) → DqAll K H xs (rs.map rsD)
  | [], [], _, _ => .nil
  | _ :: _, _ :: _, ⟨h, t⟩, hv => .cons (h.1.dq fun v e => hv v (by rw [← e]; exact List.mem_cons_self)) (RsMs.dq t fun v e => hv v (List.mem_cons_of_mem _ e))
  | [], _ :: _, h, _ => h.elim
  | _ :: _, [], h, _ => h.elim
structure KpO (K : PySem.W.Frag) (m : List Addr) (H : Hp) (x : V) (w : Nat) (d : PyData) (rs : Rs) (r dd : Addr) (v f : V) : Prop where
  e : x = .ref r
  s1 : SqT K H r [.ref dd, f]
  s2 : SqT K H dd [.int w, v]
  od : Od K m H v d
  rs : RsM K m H f rs
  w1 : w ≤ 1
def Kp1 (K : PySem.W.Frag) (m : List Addr) (H : Hp) (x : V) (a : Nat × PyData) (r : Rs) : Prop := ∃ r' dd v f, KpO K m H x a.1 a.2 r r' dd v f
inductive Kp (K : PySem.W.Frag) (m : List Addr) (H : Hp) : List V → List (Nat × PyData) → List Rs → Prop
  | nil : Kp K m H [] [] []
  | cons {x xs a as r rs} : Kp1 K m H x a r → Kp K m H xs as rs → Kp K m H (x :: xs) (a :: as) (r :: rs)
theorem Kp1.grow {x a r} (g : Grow m H H') (h : Kp1 K m H x a r) : Kp1 K m H' x a r := by
  obtain ⟨r', dd, v, f, e, s1, s2, od, rs, w1⟩ := h
  exact ⟨r', dd, v, f, e, g.sqT s1, g.sqT s2, od.grow g, rs.grow g, w1⟩
theorem Kp.grow (g : Grow m H H') : ∀ {xs as rs}, Kp K m H xs as rs → Kp K m H' xs as rs
  | _, _, _, .nil => .nil
  | _, _, _, .cons h t => .cons (h.grow g) (Kp.grow g t)
theorem Kp.snoc {x a r} (h : Kp1 K m H x a r) : ∀ {xs as rs}, Kp K m H xs as rs → Kp K m H (xs ++ [x]) (as ++ [a]) (rs ++ [r])
  | _, _, _, .nil => .cons h .nil
  | _, _, _, .cons h' t => .cons h' (Kp.snoc h t)
theorem Kp.len : ∀ {xs as rs}, Kp K m H xs as rs → as.length = xs.length ∧ rs.length = xs.length
  | _, _, _, .nil => ⟨rfl, rfl⟩
  | _, _, _, .cons _ t => ⟨congrArg (· + 1) t.len.1, congrArg (· + 1) t.len.2⟩
theorem Kp.get : ∀ {xs as rs} {i : Nat} {x : V}, Kp K m H xs as rs → xs[i]? = some x → ∃ a r, as[i]? = some a ∧ rs[i]? = some r ∧ Kp1 K m H x a r
  | _, _, _, _, _, .nil, h => by cases h
  | _, _, _, 0, _, .cons h' t, h => by cases h; exact ⟨_, _, rfl, rfl, h'⟩
  | _, _, _, i + 1, _, .cons h' t, h => Kp.get (i := i) t h
def Seen (K : PySem.W.Frag) (m : List Addr) (H : Hp) (z : V) : Prop := ∃ (t : Addr) (y : V) (k : Nat) (st : CSt), z = .ref t ∧ SqT K H t [y, .str (stD st).shown] ∧ Od K m H y (stD st) ∧ k ≤ 3 ∧ Gt88 k st
theorem Seen.grow {z : V} (g : Grow m H H') : Seen K m H z → Seen K m H' z
  | ⟨t, y, k, st, e, h, o, k3, gt⟩ => ⟨t, y, k, st, e, g.sqT h, o.grow g, k3, gt⟩
end
theorem wt_ints : ∀ {ns : List Int}, wtOs (ns.map .int) = ns.length * 1923
  | [] => rfl
  | i :: ns => by
    show 1921 + 2 + wtOs (ns.map .int) = (ns.length + 1) * 1923
    rw [wt_ints]; omega
theorem gd_ints {ns : List Int} {n : Nat} (h : ∀ v ∈ ns, 0 ≤ v ∧ v ≤ 1000) (hn : ns.length ≤ n) : GdD 1000 1 (n * 1923 + 3) (tupI ns) := by
  refine GdS.tup ⟨leDs_iff.mpr fun x hx => ?_, by rw [depth_ints]; exact Nat.le_refl _, by rw [wt_ints]; omega⟩
  obtain ⟨v, hv, rfl⟩ := List.mem_map.mp hx
  obtain ⟨a, b⟩ := h v hv
  show (decide (-(10 ^ 30 + ((1000 : Nat) : Int)) ≤ v) && decide (v ≤ 10 ^ 30 + ((1000 : Nat) : Int))) = true
  rw [decide_eq_true (by omega), decide_eq_true (by omega)]; rfl
theorem st_shows {k : Nat} {st : CSt} (k3 : k ≤ 3) (h : Gt88 k st) : (stD st).showable = true ∧ (stD st).depth ≤ 60 ∧ (stD st).shown.length ≤ sizeLine := by
  have t := h.gs.t
  have g := h.gs.gd.g
  have o := h.gs.ok.o
  have p8 := pow8 k3
  have h1 : GdD 1000 1 (8 * 1923 + 3) (tupI (intsN st.outs)) := gd_ints (fun v hv => by
    obtain ⟨w, hw, rfl⟩ := List.mem_map.mp hv
    have := h.gs.gd.o w hw
    omega) (by show (st.outs.map _).length ≤ 8; rw [List.length_map]; omega)
  have h2 : GdD 1000 1 (40 * 1923 + 3) (tupI (sortI (intsN st.gv))) := gd_ints (fun v hv => by
    have hv' : v ∈ intsN st.gv := (sortI_pm _).mem_iff.mp hv
    obtain ⟨w, hw, rfl⟩ := List.mem_map.mp hv'
    have := h.gb w hw
    omega) (by rw [(sortI_pm _).length_eq]; show (st.gv.map _).length ≤ 40; rw [List.length_map]; omega)
  have h0 : GdD 1000 1 1921 (.int ((st.toks.length : Int) - (st.gv.length : Int))) := ⟨by
    show (decide (-(10 ^ 30 + ((1000 : Nat) : Int)) ≤ (st.toks.length : Int) - (st.gv.length : Int)) && decide ((st.toks.length : Int) - (st.gv.length : Int) ≤ 10 ^ 30 + ((1000 : Nat) : Int))) = true
    rw [decide_eq_true (by omega), decide_eq_true (by omega)]; rfl, Nat.zero_le _, Nat.le_refl _⟩
  exact ((h0.one.append (h1.one.append h2.one)).tup).shows (by decide) (by decide) (by decide)
def comeN : Nat → Rs → Nat
  | 0, .val _ => 1
  | _, _ => 0
theorem step_len {k w : Nat} {st : CSt} {d : PyData} (w1 : w ≤ 1) : (stepD k st w d).2.toks.length = st.toks.length + comeN w (stepD k st w d).1 := by
  rcases (by omega : w = 0 ∨ w = 1) with rfl | rfl
  · show (comeD k st d).2.toks.length = st.toks.length + comeN 0 (comeD k st d).1
    unfold comeD
    cases hw : withinD 0 ((2 ^ k : Nat) - 1) d with
    | false => rfl
    | true =>
      obtain ⟨i, rfl, i0, i1⟩ := within_int hw
      by_cases h4 : st.toks.length = 40
      · simp only [if_pos h4]; rfl
      · simp only [if_neg h4, List.length_append]; rfl
  · show (goD k st d).2.toks.length = st.toks.length
    unfold goD
    cases hw : withinD 0 ((st.toks.length : Int) - 1) d with
    | false => rfl
    | true =>
      obtain ⟨i, rfl, i0, i1⟩ := within_int hw
      cases hg : st.toks.getD i.toNat none with
      | none => simp only [hg]
      | some lb =>
        simp only [hg]
        unfold goS
        cases (tcm (rowsT k) lb.1 lb.2 ((rowsT k).length - lb.2)).head? with
        | none => exact List.length_set ..
        | some _ => exact List.length_set ..
theorem step_out {k : Nat} {st : CSt} {d : PyData} {i : Int} (h : (stepD k st 1 d).1 = .val (.int i)) : ∃ t : Nat, d = .int t := by
  have h : (goD k st d).1 = .val (.int i) := h
  unfold goD at h
  cases hw : withinD 0 ((st.toks.length : Int) - 1) d with
  | false => rw [hw] at h; cases h
  | true =>
    obtain ⟨i, rfl, i0, i1⟩ := within_int hw
    exact ⟨i.toNat, by congr 1; omega⟩
end L3

namespace L3
open PySem PySem.Spec PyProof.Rows L2
def InjF (F : Nat → Addr) : Prop := ∀ i j, i < 21 → j < 21 → F i = F j → i = j
section
variable {K : PySem.W.Frag} {C : Addr} {F : Nat → Addr} {H H' : Hp}
theorem InjF.ne (h : InjF F) {i j : Nat} (n : i ≠ j) (hi : i < 21) (hj : j < 21) : F i ≠ F j := fun e => n (h i j hi hj e)
theorem InjF.out (h : InjF F) {i : Nat} {is : List Nat} (hi : i < 21) (hs : ∀ x ∈ is, x < 21 ∧ x ≠ i) : F i ∉ is.map F := fun z => by
  obtain ⟨x, hx, e⟩ := List.mem_map.mp z
  exact (hs x hx).2 (h x i (hs x hx).1 hi e)
def MF (F : Nat → Addr) : List Addr := (List.range 21).map F
theorem mem_MF {i : Nat} (h : i < 21) : F i ∈ MF F := List.mem_map.mpr ⟨i, List.mem_range.mpr h, rfl⟩
theorem sub_MF {is : List Nat} (hs : ∀ x ∈ is, x < 21) : ∀ b ∈ is.map F, b ∈ MF F := fun b hb => by
  obtain ⟨x, hx, rfl⟩ := List.mem_map.mp hb
  exact mem_MF (hs x hx)
def two {α : Type} (g : Nat → α) : List α := [g 0, g 1]
theorem two_get {α : Type} {g : Nat → α} {j : Nat} (h : j < 2) : (two g)[j]? = some (g j) := by
  rcases (by omega : j = 0 ∨ j = 1) with rfl | rfl <;> rfl
theorem two_set {α : Type} {g g' : Nat → α} {j : Nat} {x : α} (h : j < 2) (e : g' j = x) (n : ∀ i, i ≠ j → g' i = g i) : (two g).set j x = two g' := by
  rcases (by omega : j = 0 ∨ j = 1) with rfl | rfl
  · show [x, g 1] = [g' 0, g' 1]; rw [e, n 1 (by decide)]
  · show [g 0, x] = [g' 0, g' 1]; rw [e, n 0 (by decide)]
theorem two_ext {α : Type} {g g' : Nat → α} (e : ∀ i, g' i = g i) : two g = two g' := by rw [funext e]
structure S88 where
  ws : List (Nat × PyData)
  os : List Nat
  xs : List V
structure C88 (K : PySem.W.Frag) (C : Addr) (F : Nat → Addr) (k j : Nat) (s : S88) (H : Hp) : Prop where
  ct : CtrAt K C k (F (1 + 7 * j)) (F (2 + 7 * j)) (F (3 + 7 * j)) (F (4 + 7 * j)) (F (5 + 7 * j)) H (runS k (stZ k) s.ws)
  kp : H (F (6 + 7 * j)) = some (.lst s.xs)
  ko : H (F (7 + 7 * j)) = some (.lst (natsV s.os))
  kk : Kp K (MF F) H s.xs s.ws (runR k (stZ k) s.ws)
  oo : OutOk (runS k (stZ k) s.ws) s.os
theorem C88.grow {k j : Nat} {s : S88} {is : List Nat} (hF : InjF F) (hj : j < 2) (h : C88 K C F k j s H) (g : Grow (is.map F) H H') (hs : ∀ x ∈ is, x < 21) (hn : ∀ x ∈ is, x < 1 + 7 * j ∨ 7 + 7 * j < x) : C88 K C F k j s H' := by
  have o : ∀ i, 1 ≤ i → i ≤ 7 → F (i + 7 * j) ∉ is.map F := fun i h1 h7 => hF.out (by omega) fun x hx => ⟨hs x hx, by have := hn x hx; omega⟩
  exact ⟨h.ct.grow g (o 1 (by decide) (by decide)) (o 2 (by decide) (by decide)) (o 3 (by decide) (by decide)) (o 4 (by decide) (by decide)) (o 5 (by decide) (by decide)), g.keep _ _ (o 6 (by decide) (by decide)) h.kp, g.keep _ _ (o 7 (by decide) (by decide)) h.ko, h.kk.grow (g.mono (sub_MF hs)), h.oo⟩
def ln (k : Nat) (ws : List (Nat × PyData)) : V := .int ((runS k (stZ k) ws).toks.length : Nat)
structure I88 (K : PySem.W.Frag) (C : Addr) (F : Nat → Addr) (k : Nat → Nat) (S : Nat → S88) (zs : List V) (n : Nat) (H : Hp) : Prop where
  pot : Pot H (F 0)
  c : ∀ j, j < 2 → C88 K C F (k j) j (S j) H
  mi : H (F 15) = some (.lst (two fun i => ln (k i) (S i).ws))
  se : H (F 16) = some (.lst zs)
  sn : ∀ z ∈ zs, Seen K (MF F) H z
  ld : H (F 17) = some (.lst (two fun i => .int (k i : Nat)))
  lc : H (F 18) = some (.lst (two fun i => .ref (F (1 + 7 * i))))
  lk : H (F 19) = some (.lst (two fun i => .ref (F (6 + 7 * i))))
  lo : H (F 20) = some (.lst (two fun i => .ref (F (7 + 7 * i))))
  nz : zs.length ≤ n
  nx : ∀ j, j < 2 → (S j).xs.length ≤ n
variable {k : Nat → Nat} {S : Nat → S88} {zs : List V} {n : Nat}
theorem I88.pots (hF : InjF F) (h : I88 K C F k S zs n H) (g : Grow [F 0] H H') (pp : Pot H' (F 0)) : I88 K C F k S zs n H' := by
  have g' : Grow (([0] : List Nat).map F) H H' := g
  have o : ∀ i, 1 ≤ i → i < 21 → F i ∉ [F 0] := fun i h1 h2 => by simpa using hF.ne (show i ≠ 0 by omega) h2 (by decide)
  have gm : Grow (MF F) H H' := g.mono (by intro b hb; rw [List.mem_singleton.mp hb]; exact mem_MF (by decide))
  exact ⟨pp, fun j hj => (h.c j hj).grow hF hj g' (by simp) (fun x hx => by rw [List.mem_singleton.mp hx]; omega), g.keep _ _ (o 15 (by decide) (by decide)) h.mi, g.keep _ _ (o 16 (by decide) (by decide)) h.se, fun z hz => (h.sn z hz).grow gm, g.keep _ _ (o 17 (by decide) (by decide)) h.ld, g.keep _ _ (o 18 (by decide) (by decide)) h.lc, g.keep _ _ (o 19 (by decide) (by decide)) h.lk, g.keep _ _ (o 20 (by decide) (by decide)) h.lo, h.nz, h.nx⟩
theorem I88.grow (hF : InjF F) (h : I88 K C F k S zs n H) (g : Grow [] H H') : I88 K C F k S zs n H' := h.pots hF g.wk (h.pot.grow g)
theorem C88.occ {k j : Nat} {s : S88} (h : C88 K C F k j s H) : ∀ i, 1 ≤ i → i ≤ 7 → H (F (i + 7 * j)) ≠ none := by
  intro i h1 h7 z
  obtain ⟨dx, vg, vo, e, _⟩ := h.ct.ob
  obtain ⟨xt, hxt, _⟩ := h.ct.tk
  rcases (by omega : i = 1 ∨ i = 2 ∨ i = 3 ∨ i = 4 ∨ i = 5 ∨ i = 6 ∨ i = 7) with rfl | rfl | rfl | rfl | rfl | rfl | rfl
  · rw [e] at z; cases z
  · rw [h.ct.up] at z; cases z
  · rw [hxt] at z; cases z
  · rw [h.ct.co] at z; cases z
  · rw [h.ct.gv] at z; cases z
  · rw [h.kp] at z; cases z
  · rw [h.ko] at z; cases z
theorem I88.occ (h : I88 K C F k S zs n H) : ∀ b ∈ MF F, H b ≠ none := by
  intro b hb
  obtain ⟨i, hi, rfl⟩ := List.mem_map.mp hb
  have hi := List.mem_range.mp hi
  by_cases h0 : i = 0
  · subst h0; exact pot_ne h.pot _ (by simp)
  by_cases h1 : i < 8
  · exact (h.c 0 (by decide)).occ i (by omega) (by omega)
  by_cases h2 : i < 15
  · have := (h.c 1 (by decide)).occ (i - 7) (by omega) (by omega)
    rwa [show i - 7 + 7 * 1 = i by omega] at this
  intro z
  rcases (by omega : i = 15 ∨ i = 16 ∨ i = 17 ∨ i = 18 ∨ i = 19 ∨ i = 20) with rfl | rfl | rfl | rfl | rfl | rfl
  · rw [h.mi] at z; cases z
  · rw [h.se] at z; cases z
  · rw [h.ld] at z; cases z
  · rw [h.lc] at z; cases z
  · rw [h.lk] at z; cases z
  · rw [h.lo] at z; cases z
def nxt (k : Nat → Nat) (S : Nat → S88) (j w : Nat) (d : PyData) (x : V) (i : Nat) : S88 := if i = j then ⟨(S j).ws ++ [(w, d)], outStep (S j).os w d (stepD (k j) (runS (k j) (stZ (k j)) (S j).ws) w d).1, (S j).xs ++ [x]⟩ else S i
theorem nxt_self {j w : Nat} {d : PyData} {x : V} : nxt k S j w d x j = ⟨(S j).ws ++ [(w, d)], outStep (S j).os w d (stepD (k j) (runS (k j) (stZ (k j)) (S j).ws) w d).1, (S j).xs ++ [x]⟩ := if_pos rfl
theorem nxt_ne {i j w : Nat} {d : PyData} {x : V} (h : i ≠ j) : nxt k S j w d x i = S i := if_neg h
def mj (j : Nat) : List Nat := [0, 2 + 7 * j, 3 + 7 * j, 4 + 7 * j, 5 + 7 * j, 6 + 7 * j, 7 + 7 * j, 15, 16]
theorem mj_lt {j : Nat} (hj : j < 2) : ∀ x ∈ mj j, x < 21 := by
  intro x hx
  simp only [mj, List.mem_cons, List.not_mem_nil, or_false] at hx
  omega
theorem I88.next {j w : Nat} {d : PyData} {v f z : V} {r dd : Addr} (hF : InjF F) (h : I88 K C F k S zs n H) (hj : j < 2) (g : Grow ((mj j).map F) H H') (pp : Pot H' (F 0))
    (hc : CtrAt K C (k j) (F (1 + 7 * j)) (F (2 + 7 * j)) (F (3 + 7 * j)) (F (4 + 7 * j)) (F (5 + 7 * j)) H' (stepD (k j) (runS (k j) (stZ (k j)) (S j).ws) w d).2) (w1 : w ≤ 1)
    (hk : H' (F (6 + 7 * j)) = some (.lst ((S j).xs ++ [.ref r]))) (ho : H' (F (7 + 7 * j)) = some (.lst (natsV (outStep (S j).os w d (stepD (k j) (runS (k j) (stZ (k j)) (S j).ws) w d).1))))
    (s1 : SqT K H' r [.ref dd, f]) (s2 : SqT K H' dd [.int w, v]) (od : Od K (MF F) H' v d) (rs : RsM K (MF F) H' f (stepD (k j) (runS (k j) (stZ (k j)) (S j).ws) w d).1)
    (mi : H' (F 15) = some (.lst (two fun i => ln (k i) (nxt k S j w d (.ref r) i).ws))) (se : H' (F 16) = some (.lst (zs ++ [z]))) (sn : Seen K (MF F) H' z) : I88 K C F k (nxt k S j w d (.ref r)) (zs ++ [z]) (n + 1) H' := by
  have gm : Grow (MF F) H H' := g.mono (sub_MF (mj_lt hj))
  have o : ∀ i, 17 ≤ i → i < 21 → F i ∉ (mj j).map F := fun i h1 h2 => hF.out h2 fun x hx => ⟨mj_lt hj x hx, by
    simp only [mj, List.mem_cons, List.not_mem_nil, or_false] at hx
    omega⟩
  refine ⟨pp, fun i hi => ?_, mi, se, fun y hy => ?_, g.keep _ _ (o 17 (by decide) (by decide)) h.ld, g.keep _ _ (o 18 (by decide) (by decide)) h.lc, g.keep _ _ (o 19 (by decide) (by decide)) h.lk, g.keep _ _ (o 20 (by decide) (by decide)) h.lo, by rw [List.length_append, List.length_singleton]; exact Nat.succ_le_succ h.nz, fun i hi => ?_⟩
  · by_cases e : i = j
    · subst e
      rw [nxt_self]
      exact ⟨by rw [runS_snoc]; exact hc, hk, ho, by rw [runR_snoc]; exact Kp.snoc ⟨r, dd, v, f, rfl, s1, s2, od, rs, w1⟩ ((h.c i hi).kk.grow gm), by rw [runS_snoc]; exact OutOk.step w1 (h.c i hi).oo⟩
    · rw [nxt_ne e]
      refine (h.c i hi).grow hF hi g (mj_lt hj) fun x hx => ?_
      simp only [mj, List.mem_cons, List.not_mem_nil, or_false] at hx
      omega
  · rcases List.mem_append.mp hy with hy | hy
    · exact (h.sn y hy).grow gm
    · rw [List.mem_singleton.mp hy]; exact sn
  · by_cases e : i = j
    · subst e
      rw [nxt_self]
      show ((S i).xs ++ [V.ref r]).length ≤ n + 1
      rw [List.length_append, List.length_singleton]; exact Nat.succ_le_succ (h.nx i hi)
    · rw [nxt_ne e]; exact Nat.le_succ_of_le (h.nx i hi)
theorem mi_same {j w : Nat} {d : PyData} {x : V} (w1 : w ≤ 1) (h : w = 1 ∨ ∀ v, (stepD (k j) (runS (k j) (stZ (k j)) (S j).ws) w d).1 ≠ .val v) : (two fun i => ln (k i) (S i).ws) = two fun i => ln (k i) (nxt k S j w d x i).ws := by
  refine two_ext fun i => ?_
  by_cases e : i = j
  · subst e
    rw [nxt_self]
    show ln (k i) ((S i).ws ++ [(w, d)]) = _
    unfold ln
    rw [runS_snoc, step_len w1]
    rcases h with rfl | h
    · rfl
    · cases hr : (stepD (k i) (runS (k i) (stZ (k i)) (S i).ws) w d).1 with
      | val v => exact absurd hr (h v)
      | side => cases w <;> rfl
      | many => cases w <;> rfl
      | tok => cases w <;> rfl
  · rw [nxt_ne e]
theorem mi_up {j : Nat} {d : PyData} {x v : V} (hj : j < 2) (h : (stepD (k j) (runS (k j) (stZ (k j)) (S j).ws) 0 d).1 = .val v) : (two fun i => ln (k i) (S i).ws).set j (.int (((runS (k j) (stZ (k j)) (S j).ws).toks.length : Int) + 1)) = two fun i => ln (k i) (nxt k S j 0 d x i).ws := by
  refine two_set hj ?_ fun i e => by rw [nxt_ne e]
  rw [nxt_self]
  show ln (k j) ((S j).ws ++ [(0, d)]) = _
  unfold ln
  rw [runS_snoc, step_len (by decide), h]
  rfl
end
def permF : List Nat := [20, 14, 15, 16, 17, 18, 7, 3, 9, 10, 11, 12, 13, 6, 2, 4, 0, 19, 8, 5, 1]
theorem injF {L : List Addr} (hl : L.length = 21) (nd : L.Nodup) : InjF fun i => L.getD (permF.getD i 0) 0 := by
  intro i j hi hj e
  have b : ∀ i, i < 21 → permF.getD i 0 < 21 := by decide
  have c : ∀ i, i < 21 → ∀ j, j < 21 → permF.getD i 0 = permF.getD j 0 → i = j := by decide
  refine c i hi j hj ?_
  have h1 : permF.getD i 0 < L.length := by rw [hl]; exact b i hi
  have h2 : permF.getD j 0 < L.length := by rw [hl]; exact b j hj
  have e' : L[permF.getD i 0] = L[permF.getD j 0] := by
    have e : L.getD (permF.getD i 0) 0 = L.getD (permF.getD j 0) 0 := e
    have q : ∀ {n : Nat} (h : n < L.length), L.getD n 0 = L[n] := fun h => by rw [List.getD_eq_getElem?_getD, List.getElem?_eq_getElem h]; rfl
    rwa [q h1, q h2] at e
  exact (List.getElem_inj nd).mp e'
theorem memF {L : List Addr} (hl : L.length = 21) : ∀ b ∈ MF (fun i => L.getD (permF.getD i 0) 0), b ∈ L := fun b hb => by
  obtain ⟨i, hi, e⟩ := List.mem_map.mp hb
  have hi := List.mem_range.mp hi
  have c : ∀ i, i < 21 → permF.getD i 0 < 21 := by decide
  have h1 : permF.getD i 0 < L.length := by rw [hl]; exact c i hi
  have e : L.getD (permF.getD i 0) 0 = b := e
  rw [List.getD_eq_getElem?_getD, List.getElem?_eq_getElem h1] at e
  rw [← e]
  exact List.getElem_mem h1
structure Tk (B : Hp) (L : List Addr) (H : Hp) : Prop where
  nd : L.Nodup
  oc : ∀ b ∈ L, H b ≠ none
  fr : ∀ b ∈ L, B b = none
  gr : Grow [] B H
theorem Tk.grow {B : Hp} {L : List Addr} {H H' : Hp} (t : Tk B L H) (g : Grow [] H H') : Tk B L H' := ⟨t.nd, grow_none g t.oc, t.fr, t.gr.trans g⟩
theorem Tk.new {B : Hp} {L : List Addr} {H : Hp} {x : Addr} (t : Tk B L H) (hx : H x = none) (o : HO) : Tk B (x :: L) (upd H x o) :=
  ⟨List.nodup_cons.mpr ⟨fun z => t.oc x z hx, t.nd⟩, fun b hb z => by
    rcases List.mem_cons.mp hb with rfl | hb
    · rw [upd_same] at z; cases z
    · exact grow_none (Grow.new (m := []) hx o) t.oc b hb z, fun b hb => by
    rcases List.mem_cons.mp hb with rfl | hb
    · exact t.gr.free (by simp) hx
    · exact t.fr b hb, t.gr.trans (Grow.new hx o)⟩
theorem Tk.ctr {B : Hp} {K : PySem.W.Frag} {C : Addr} {k : Nat} {L : List Addr} {H H' : Hp} {p lu lt lc lg : Addr} {st : CSt} (t : Tk B L H) (h : CtrAt K C k p lu lt lc lg H' st) (g : Grow [] H H') (np : H p = none) (nu : H lu = none) (nt : H lt = none) (nc : H lc = none) (ng : H lg = none) : Tk B (p :: lu :: lt :: lc :: lg :: L) H' := by
  obtain ⟨dx, vg, vo, e, _⟩ := h.ob
  obtain ⟨xt, hxt, _⟩ := h.tk
  have q1 : p ≠ lu := fun z => by rw [z, h.up] at e; cases e
  have q2 : p ≠ lt := fun z => by rw [z, hxt] at e; cases e
  have q3 : p ≠ lc := fun z => by rw [z, h.co] at e; cases e
  have q4 : p ≠ lg := fun z => by rw [z, h.gv] at e; cases e
  have f : ∀ x, H x = none → x ∉ L := fun x hx z => t.oc x z hx
  have nm : ∀ {a b : Addr} {l : List Addr}, a ≠ b → a ∉ l → a ∉ b :: l := fun h1 h2 z => (List.mem_cons.mp z).elim h1 h2
  have fb : ∀ x, H x = none → B x = none := fun x hx => t.gr.free (by simp) hx
  refine ⟨List.nodup_cons.mpr ⟨nm q1 (nm q2 (nm q3 (nm q4 (f _ np)))), List.nodup_cons.mpr ⟨nm h.n1 (nm h.n2 (nm h.n3 (f _ nu))), List.nodup_cons.mpr ⟨nm h.n4 (nm h.n5 (f _ nt)), List.nodup_cons.mpr ⟨nm h.n6 (f _ nc), List.nodup_cons.mpr ⟨f _ ng, t.nd⟩⟩⟩⟩⟩, fun b hb z => ?_, fun b hb => ?_, t.gr.trans g⟩
  · rcases List.mem_cons.mp hb with rfl | hb
    · rw [e] at z; cases z
    rcases List.mem_cons.mp hb with rfl | hb
    · rw [h.up] at z; cases z
    rcases List.mem_cons.mp hb with rfl | hb
    · rw [hxt] at z; cases z
    rcases List.mem_cons.mp hb with rfl | hb
    · rw [h.co] at z; cases z
    rcases List.mem_cons.mp hb with rfl | hb
    · rw [h.gv] at z; cases z
    exact grow_none g t.oc b hb z
  · rcases List.mem_cons.mp hb with rfl | hb
    · exact fb _ np
    rcases List.mem_cons.mp hb with rfl | hb
    · exact fb _ nu
    rcases List.mem_cons.mp hb with rfl | hb
    · exact fb _ nt
    rcases List.mem_cons.mp hb with rfl | hb
    · exact fb _ nc
    rcases List.mem_cons.mp hb with rfl | hb
    · exact fb _ ng
    exact t.fr b hb
theorem I88.more {K : PySem.W.Frag} {C : Addr} {F : Nat → Addr} {k : Nat → Nat} {S : Nat → S88} {zs : List V} {n n' : Nat} {H : Hp} (h : I88 K C F k S zs n H) (e : n ≤ n') : I88 K C F k S zs n' H := { h with nz := Nat.le_trans h.nz e, nx := fun j hj => Nat.le_trans (h.nx j hj) e }
theorem outStep_l {os : List Nat} {w : Nat} {d : PyData} {r : Rs} (h : ∀ v, r ≠ .val v) : outStep os w d r = os := by
  unfold outStep
  split
  · exact absurd rfl (h _)
  · rfl
theorem outStep_z {os : List Nat} {d : PyData} {r : Rs} : outStep os 0 d r = os := by
  unfold outStep
  split
  · exfalso; omega
  · rfl
theorem outStep_n {os : List Nat} {w : Nat} {d : PyData} : outStep os w d (.val .non) = os := by
  unfold outStep
  split
  · rename_i h; cases h
  · rfl
section
variable {F : Nat → Addr} {j : Nat}
theorem ap88 (hF : InjF F) (hj : j < 2) : F 0 ∉ [F (1 + 7 * j), F (2 + 7 * j), F (3 + 7 * j), F (4 + 7 * j), F (5 + 7 * j)] :=
  hF.out (is := [1 + 7 * j, 2 + 7 * j, 3 + 7 * j, 4 + 7 * j, 5 + 7 * j]) (by decide) fun x hx => by
    simp only [List.mem_cons, List.not_mem_nil, or_false] at hx
    omega
theorem sub88 (hj : j < 2) : ∀ b ∈ [F 0, F (2 + 7 * j), F (3 + 7 * j), F (4 + 7 * j), F (5 + 7 * j)], b ∈ MF F :=
  sub_MF (is := [0, 2 + 7 * j, 3 + 7 * j, 4 + 7 * j, 5 + 7 * j]) fun x hx => by
    simp only [List.mem_cons, List.not_mem_nil, or_false] at hx
    omega
theorem out88 (hF : InjF F) {i : Nat} (hi : i < 21) (h : i = 6 + 7 * j ∨ i = 7 + 7 * j ∨ 15 ≤ i) (hj : j < 2) : F i ∉ [F 0, F (2 + 7 * j), F (3 + 7 * j), F (4 + 7 * j), F (5 + 7 * j)] :=
  hF.out (is := [0, 2 + 7 * j, 3 + 7 * j, 4 + 7 * j, 5 + 7 * j]) hi fun x hx => by
    simp only [List.mem_cons, List.not_mem_nil, or_false] at hx
    omega
end
theorem ix_two {j : Nat} (h : j < 2) : ixN 2 (j : Int) = some j := by rcases (by omega : j = 0 ∨ j = 1) with rfl | rfl <;> rfl
theorem any_false88 : ∀ {n : Nat}, (List.replicate n false).any id = false
  | 0 => rfl
  | n + 1 => by rw [List.replicate_succ, List.any_cons, any_false88]; rfl
end L3

namespace My
open PySem PySem.Spec PyProof.Rows L2 L3
def top (i : Nat) : Stmt := PySem.Challenge.pw_joinedasks_k88_counters_beside_one_anoth.main.body.getD i (.Pass ⟨0, 0, 0, 0⟩)
section
variable {P : Program} {w : World} {K : PySem.W.Frag} {mg : Str → Option Value} {base : Heap}
theorem sc_Counter_told : FnScope ["self"] ["self"] (defScope (inClass (top 18) 6)) := ⟨rfl, rfl, rfl, by decide +kernel, rfl, by decide +kernel, by decide +kernel⟩
set_option maxHeartbeats 0 in
theorem ok_Counter_told {n : Nat} {f : Addr} {fd : FuncData} (F : Fun K "told" "Counter.told" (inClass (top 18) 6) f fd) (B : Blt mg) {C : Addr} (T : CTxt K mg C)  (g_sorted : mg "sorted" = none)   :
    FnOk P w K mg base CX0 (n + 1) f fd ["self"] (sp_told86 C K) := by
  refine F.ok sc_Counter_told sp1_len (fun cdv A outer s H vs Q E hr h => ?_)
  obtain ⟨x, rfl, p, lu, lt, lc, lg, k, st, rfl, hc, hl, q⟩ := h
  refine ⟨_, (pss_one (ps_ret (pe_callTy call_tuple_of rfl B.tuple b_tuple (pa_cons (pe_callB (call_sortedL (K := K) rfl) rfl g_sorted b_sorted (pa_cons (pe_fld (pv 0) rfl) pa_nil)) pa_nil)))), ?_⟩
  obtain ⟨dx, vg, vo, hp, _⟩ := id hc.ob
  refine ⟨_, rfl, p, C, dx, _, _, rfl, hp, T.cl, T.n7, f_gv, lg, intsN st.gv, rfl, by rw [← natsV_I]; exact SqL.of hc.gv, by unfold intsN; rw [List.length_map]; exact hl, fun l1 ms hl1 pm sm => ?_⟩
  have g1 := Grow.new (m := []) hl1 (.lst (ms.map V.int))
  refine ⟨l1, _, rfl, .inl ⟨SqL.of upd_same, fun l2 hl2 => ?_⟩⟩
  exact q _ ms _ (g1.trans (Grow.new hl2 _)) ⟨l2, rfl, SqT.of upd_same⟩ pm sm
theorem sc_Counter_outs : FnScope ["self"] ["self"] (defScope (inClass (top 18) 5)) := ⟨rfl, rfl, rfl, by decide +kernel, rfl, by decide +kernel, by decide +kernel⟩
set_option maxHeartbeats 0 in
theorem ok_Counter_outs {n : Nat} {f : Addr} {fd : FuncData} (F : Fun K "outs" "Counter.outs" (inClass (top 18) 5) f fd) (B : Blt mg) {C : Addr} (T : CTxt K mg C)     :
    FnOk P w K mg base CX0 (n + 1) f fd ["self"] (sp_outs87 C K) := by
  refine F.ok sc_Counter_outs sp1_len (fun cdv A outer s H vs Q E hr h => ?_)
  obtain ⟨x, rfl, p, lu, lt, lc, lg, k, st, rfl, hc, q⟩ := h
  refine ⟨_, (pss_one (ps_ret (pe_callTy call_tuple_of rfl B.tuple b_tuple (pa_cons (pe_fld (pv 0) rfl) pa_nil)))), ?_⟩
  obtain ⟨dx, vg, vo, hp, hr, ho⟩ := id hc.ob
  exact ⟨_, rfl, p, C, dx, _, _, rfl, hp, T.cl, T.n6, f_co, lc, _, rfl, .inl ⟨SqL.of hc.co, fun l hl => q _ _ (Grow.new hl _) ⟨l, rfl, SqT.of upd_same⟩⟩⟩
theorem sc_Counter_inside : FnScope ["self"] ["self"] (defScope (inClass (top 18) 4)) := ⟨rfl, rfl, rfl, by decide +kernel, rfl, by decide +kernel, by decide +kernel⟩
set_option maxHeartbeats 0 in
theorem ok_Counter_inside {n : Nat} {f : Addr} {fd : FuncData} (F : Fun K "inside" "Counter.inside" (inClass (top 18) 4) f fd) (B : Blt mg) {C : Addr} (T : CTxt K mg C)     :
    FnOk P w K mg base CX0 (n + 1) f fd ["self"] (sp_inside86 C K) := by
  refine F.ok sc_Counter_inside sp1_len (fun cdv A outer s H vs Q E hr h => ?_)
  obtain ⟨x, rfl, p, lu, lt, lc, lg, k, st, rfl, hc, q⟩ := h
  refine ⟨_, (pss_one (ps_ret (pe_op op_sub (pe_callB call_len_seq rfl B.len b_len (pa_cons (pe_fld (pv 0) rfl) pa_nil)) (pe_callB call_len_seq rfl B.len b_len (pa_cons (pe_fld (pv 0) rfl) pa_nil))))), ?_⟩
  obtain ⟨dx, vg, vo, hp, _⟩ := id hc.ob
  obtain ⟨xs, hx, hxa⟩ := id hc.tk
  have hxl := hxa.len
  refine ⟨_, rfl, p, C, dx, _, _, rfl, hp, T.cl, T.n5, f_tok, lt, xs, rfl, .inl (SqL.of hx), _, rfl, p, C, dx, _, _, rfl, hp, T.cl, T.n7, f_gv, lg, _, rfl, .inl (SqL.of hc.gv), _, _, rfl, rfl, ?_⟩
  show Q (V.int ((xs.length : Int) - ((natsV st.gv).length : Int))) H
  rw [natsV_len, hxl]
  exact q
theorem sc__law_state : FnScope ["_law_counter"] ["_law_counter"] (defScope (top 24)) := ⟨rfl, rfl, rfl, by decide +kernel, rfl, by decide +kernel, by decide +kernel⟩
set_option maxHeartbeats 0 in
theorem ok__law_state {n : Nat} {f : Addr} {fd : FuncData} (F : Fun K "_law_state" "_law_state" (top 24) f fd) (B : Blt mg) {C : Addr} (T : CTxt K mg C) (mc_told : MCallee P w K mg base C n "told" ["self"] (sp_told86 C K)) (mc_outs : MCallee P w K mg base C n "outs" ["self"] (sp_outs87 C K)) (mc_inside : MCallee P w K mg base C n "inside" ["self"] (sp_inside86 C K))     :
    FnOk P w K mg base CX0 (n + 1) f fd ["_law_counter"] (sp_state88 C K) := by
  refine F.ok sc__law_state sp1_len (fun cdv A outer s H vs Q E hr h => ?_)
  obtain ⟨x, rfl, p, lu, lt, lc, lg, k, st, rfl, hc, gd, q⟩ := h
  refine ⟨_, (pss_one (ps_ret (pe_tup (pa_cons (pe_methC0 mc_inside T.cl hr (pv 0)) (pa_cons (pe_methC0 mc_outs T.cl hr (pv 0)) (pa_cons (pe_methC0 mc_told T.cl hr (pv 0)) pa_nil)))))), ?_⟩
  obtain ⟨dx, vg, vo, hp, _⟩ := id hc.ob
  refine ⟨_, rfl, p, dx, _, rfl, hp, f_no (by decide +kernel) (by decide +kernel) (by decide +kernel) (by decide +kernel) (by decide +kernel) (by decide +kernel) (by decide +kernel), _, rfl, p, lu, lt, lc, lg, k, st, rfl, hc, ?_⟩
  refine ⟨_, rfl, p, dx, _, rfl, hp, f_no (by decide +kernel) (by decide +kernel) (by decide +kernel) (by decide +kernel) (by decide +kernel) (by decide +kernel) (by decide +kernel), _, rfl, p, lu, lt, lc, lg, k, st, rfl, hc, fun y1 H1 g1 h1 => ?_⟩
  have hc1 := hc.grow g1 (by simp) (by simp) (by simp) (by simp) (by simp)
  obtain ⟨dx1, vg1, vo1, hp1, _⟩ := id hc1.ob
  refine ⟨_, rfl, p, dx1, _, rfl, hp1, f_no (by decide +kernel) (by decide +kernel) (by decide +kernel) (by decide +kernel) (by decide +kernel) (by decide +kernel) (by decide +kernel), _, rfl, p, lu, lt, lc, lg, k, st, rfl, hc1, by have := gd.g; omega, fun y2 ms H2 g2 h2 pm sm => ⟨szl rfl, fun t3 ht3 => ?_⟩⟩
  obtain rfl := sortI_of pm sm
  obtain ⟨r1, rfl, s1⟩ := h1
  obtain ⟨r2, rfl, s2⟩ := h2
  rw [natsV_I] at s1
  have g3 := Grow.new (m := []) ht3 (.tup [V.int ((st.toks.length : Int) - (st.gv.length : Int)), .ref r1, .ref r2])
  exact q (.ref t3) _ (g1.trans (g2.trans g3)) fun m => .tup (SqT.of upd_same) (.cons (.int _) (.cons (.tup ((g2.trans g3).sqT s1) Ods.ints) (.cons (.tup (g3.sqT s2) Ods.ints) .nil)))
theorem sc_is_whole : FnScope ["thing"] ["thing"] (defScope (top 7)) := ⟨rfl, rfl, rfl, by decide +kernel, rfl, by decide +kernel, by decide +kernel⟩
set_option maxHeartbeats 0 in
theorem ok_is_whole {n : Nat} {f : Addr} {fd : FuncData} (F : Fun K "is_whole" "is_whole" (top 7) f fd) (B : Blt mg)     :
    FnOk P w K mg base CX0 (n + 1) f fd ["thing"] (sp_is_wholeO K) := by
  refine F.ok sc_is_whole sp1_len (fun cdv A outer s H vs Q E hr h => ?_)
  obtain ⟨x, rfl, d, m, hd, q⟩ := h
  refine ⟨_, (pss_one (ps_ret (pe_and (pe_callB (call_isiO (K := K) rfl) rfl B.isinstance b_isinstance (pa_cons (pv 0) (pa_cons (pe_tyn rfl B.int b_int) pa_nil))) (pe_one (pe_not (pe_callB (call_isiO (K := K) rfl) rfl B.isinstance b_isinstance (pa_cons (pv 0) (pa_cons (pe_tyn rfl B.bool b_bool) pa_nil)))))))), ?_⟩
  refine ⟨_, rfl, _, d, m, _, _, rfl, hd, kit_int, _, rfl, ?_⟩
  cases d with
  | int i => exact iteT ⟨_, rfl, _, _, m, _, _, rfl, hd, kit_bool, _, rfl, q⟩
  | bool b => exact iteT ⟨_, rfl, _, _, m, _, _, rfl, hd, kit_bool, _, rfl, q⟩
  | _ => exact iteF q
theorem sc_is_within : FnScope ["thing", "least", "greatest"] ["thing", "least", "greatest"] (defScope (top 8)) := ⟨rfl, rfl, rfl, by decide +kernel, rfl, by decide +kernel, by decide +kernel⟩
set_option maxHeartbeats 0 in
theorem ok_is_within {n : Nat} {f : Addr} {fd : FuncData} (F : Fun K "is_within" "is_within" (top 8) f fd) (B : Blt mg) (c_is_whole : Callee P w K mg base n "is_whole" ["thing"] (sp_is_wholeO K))    :
    FnOk P w K mg base CX0 (n + 1) f fd ["thing", "least", "greatest"] (sp_withinO K) := by
  refine F.ok sc_is_within sp3_len (fun cdv A outer s H vs Q E hr h => ?_)
  obtain ⟨x, y, z, rfl, d, m, l, u, hd, rfl, rfl, q⟩ := h
  refine ⟨_, (pss_one (ps_ret (pe_and (pe_callC c_is_whole hr rfl (pa_cons (pv 0) pa_nil)) (pe_one (pe_chain op_le op_le (pv 1) (pv 0) (pv 2)))))), ?_⟩
  refine ⟨_, rfl, _, rfl, d, m, hd, _, rfl, ?_⟩
  cases d with
  | int i =>
    obtain rfl := hd.inv_int
    refine iteT ⟨_, rfl, _, rfl, _, _, rfl, rfl, _, rfl, ?_⟩
    have q' : Q (.bl (decide (l ≤ i) && decide (i ≤ u))) H := q
    by_cases c : l ≤ i
    · refine iteT' (decide_eq_true c) ⟨_, rfl, _, _, rfl, rfl, ?_⟩
      rw [decide_eq_true c] at q'; exact q'
    · refine iteF' (decide_eq_false c) ?_
      rw [decide_eq_false c] at q'; exact q'
  | _ => exact iteF q
theorem sc_is_line : FnScope ["k", "thing"] ["k", "thing"] (defScope (top 10)) := ⟨rfl, rfl, rfl, by decide +kernel, rfl, by decide +kernel, by decide +kernel⟩
set_option maxHeartbeats 0 in
theorem ok_is_line {n : Nat} {f : Addr} {fd : FuncData} (F : Fun K "is_line" "is_line" (top 10) f fd) (B : Blt mg) (c_is_within : Callee P w K mg base n "is_within" ["thing", "least", "greatest"] (sp_withinO K))    :
    FnOk P w K mg base CX0 (n + 1) f fd ["k", "thing"] (sp_lineO K) := by
  refine F.ok sc_is_line sp2_len (fun cdv A outer s H vs Q E hr h => ?_)
  obtain ⟨x, y, rfl, k, d, m, rfl, k4, hd, q⟩ := h
  refine ⟨_, (pss_one (ps_ret (pe_callC c_is_within hr rfl (pa_cons (pv 1) (pa_cons pe_int (pa_cons (pe_op op_sub (pe_op op_shl pe_int (pv 0)) pe_int) pa_nil)))))), ?_⟩
  refine ⟨_, rfl, _, rfl, _, _, rfl, rfl, shlOne k4, _, _, rfl, rfl, _, _, _, rfl, d, m, 0, _, hd, rfl, congrArg V.int (by rw [one_shl]), q⟩
theorem sc_Counter_come : FnScope ["self", "line"] ["self", "line"] (defScope (inClass (top 18) 1)) := ⟨rfl, rfl, rfl, by decide +kernel, rfl, by decide +kernel, by decide +kernel⟩
set_option maxHeartbeats 0 in
theorem ok_Counter_come {n : Nat} {f : Addr} {fd : FuncData} (F : Fun K "come" "Counter.come" (inClass (top 18) 1) f fd) (B : Blt mg) {C : Addr} (T : CTxt K mg C) {A_TooMany : Addr} {A_NoSide : Addr} (x_TooMany : ExcC K mg "TooMany" A_TooMany) (x_NoSide : ExcC K mg "NoSide" A_NoSide) (c_is_line : Callee P w K mg base n "is_line" ["k", "thing"] (sp_lineO K))  {t_MOST_TOKENS : Tok} (g_MOST_TOKENS : mg "MOST_TOKENS" = some (.int 40 t_MOST_TOKENS))  :
    FnOk P w K mg base (CX1 P w) (n + 1) f fd ["self", "line"] (sp_come88 A_NoSide A_TooMany A_NoSide C K) := by
  refine Fun.okX F sc_Counter_come spX2_len (fun cdv A outer s H vs Q E hr h => ?_)
  obtain ⟨x, y, rfl, p, lu, lt, lc, lg, k, d, m, st, rfl, hd, k3, hc, gd, q⟩ := h
  refine ⟨_, (pss_cons (ps_if (pt_not (pt_val (pe_callC c_is_line hr rfl (pa_cons (pe_fld (pv 0) rfl) (pa_cons (pv 1) pa_nil))))) (pss_one (ps_raise rfl x_NoSide rfl raises_cx pe_str)) pss_nil) (pss_cons (ps_if (pt_cmpR op_eq (pe_callB call_len_seq rfl B.len b_len (pa_cons (pe_fld (pv 0) rfl) pa_nil)) (pe_glob rfl g_MOST_TOKENS (show RelV (.int 40) (.int 40 t_MOST_TOKENS) from ⟨_, rfl⟩)) (nomark _)) (pss_one (ps_raise rfl x_TooMany rfl raises_cx pe_str)) pss_nil) (pss_cons (ps_expr (pe_bm PySem.F.plainAttrs_list PySem.F.slot_list_append PySem.F.type_list_append mt_append (pe_fld (pv 0) rfl) (pa_cons (pe_tup (pa_cons (pv 1) (pa_cons pe_int pa_nil))) pa_nil))) (pss_one (ps_ret (pe_op op_sub (pe_callB call_len_seq rfl B.len b_len (pa_cons (pe_fld (pv 0) rfl) pa_nil)) pe_int)))))), ?_⟩
  obtain ⟨dx, vg, vo, hp, hr, ho⟩ := id hc.ob
  obtain ⟨xs, hx, hxa⟩ := id hc.tk
  have hxl := hxa.len
  unfold comeD at q
  refine ⟨_, rfl, p, C, dx, _, _, rfl, hp, T.cl, T.n1, f_depth, _, rfl, _, _, rfl, k, d, m, rfl, by omega, hd, _, rfl, ?_⟩
  cases hw : withinD 0 ((2 ^ k : Nat) - 1) d with
  | false =>
    rw [hw] at q
    exact iteT fun e => q e _ (Grow.refl _ _)
  | true =>
    rw [hw] at q
    refine iteF ?_
    obtain ⟨i, rfl, i0, i1⟩ := within_int hw
    obtain ⟨l, rfl⟩ : ∃ l : Nat, i = l := ⟨i.toNat, by omega⟩
    obtain rfl := hd.inv_int
    simp only [Int.toNat_natCast] at q
    by_cases h40 : st.toks.length = 40
    · rw [if_pos h40] at q
      exact ⟨_, rfl, p, C, dx, _, _, rfl, hp, T.cl, T.n5, f_tok, lt, xs, rfl, .inl (SqL.of hx), rfl, _, rfl, iteT' (decide_eq_true (congrArg V.int (by omega))) fun e => q e _ (Grow.refl _ _)⟩
    rw [if_neg h40] at q
    have ht : st.toks.length < 40 := by have := gd.t; omega
    refine ⟨_, rfl, p, C, dx, _, _, rfl, hp, T.cl, T.n5, f_tok, lt, xs, rfl, .inl (SqL.of hx), rfl, _, rfl, iteF' (decide_eq_false fun z => by have := V.int.inj z; omega) ?_⟩
    refine ⟨_, rfl, p, C, dx, _, _, rfl, hp, T.cl, T.n5, f_tok, .inl ⟨rfl, xs, SqL.of hx⟩, _, rfl, szl rfl, fun r hr' => ?_⟩
    have g := Grow.new (m := []) hr' (.tup [V.int l, V.int 0])
    have hx1 := g.keep _ _ (by simp) hx
    have hc1 := hc.grow g (by simp) (by simp) (by simp) (by simp) (by simp)
    refine ⟨lt, xs, _, rfl, rfl, hx1, small1000 (by omega), ?_⟩
    have hc2 := hc1.setT ((g.toks hxa).app (AllR.one (k := some (l, 0)) ⟨r, rfl, SqT.of upd_same⟩))
    have G : Grow [lt] H (upd (upd H r (.tup [V.int l, V.int 0])) lt (.lst (xs ++ [V.ref r]))) := g.wk.trans (Grow.set hx1 (by simp) _)
    obtain ⟨dx', vg', vo', hp', _⟩ := id hc2.ob
    obtain ⟨ys, hy, hya⟩ := id hc2.tk
    have hyl := hya.len
    refine ⟨_, rfl, p, C, dx', _, _, rfl, hp', T.cl, T.n5, f_tok, lt, ys, rfl, .inl (SqL.of hy), _, _, rfl, rfl, ?_⟩
    rw [hyl]
    have e : (((st.toks ++ [some (l, 0)]).length : Nat) : Int) - 1 = (st.toks.length : Int) := by rw [List.length_append]; show ((st.toks.length + 1 : Nat) : Int) - 1 = _; omega
    show Q (V.int ((((st.toks ++ [some (l, 0)]).length : Nat) : Int) - 1)) _
    rw [e]
    exact q _ (G.mono (by simp)) hc2
theorem sc_Counter_come_out : FnScope ["self", "token", "line", "place", "number"] ["self", "token", "line"] (defScope (inClass (top 18) 3)) := ⟨rfl, rfl, rfl, by decide +kernel, rfl, by decide +kernel, by decide +kernel⟩
set_option maxHeartbeats 0 in
theorem ok_Counter_come_out {n : Nat} {f : Addr} {fd : FuncData} (F : Fun K "come_out" "Counter.come_out" (inClass (top 18) 3) f fd) (B : Blt mg) {C : Addr} (T : CTxt K mg C)     :
    FnOk P w K mg base CX0 (n + 1) f fd ["self", "token", "line"] (sp_come_out87 C K) := by
  refine F.ok sc_Counter_come_out sp3_len (fun cdv A outer s H vs Q E hr h => ?_)
  obtain ⟨x, y, z, rfl, p, lu, lt, lc, lg, k, t, l, st, rfl, rfl, rfl, k3, hc, ok, hl, ht, gn, ib, q⟩ := h
  refine ⟨_, (pss_cons (ps_set (i := 3) sc_Counter_come_out.nd rfl (Or.inl rfl) (pe_bmF PySem.F.plainAttrs_tuple PySem.F.slot_tuple_index PySem.F.type_tuple_index (mt_tindex (K := K) rfl) (pe_fld (pv 0) rfl) (pa_cons (pv 2) pa_nil))) (pss_cons (ps_set (i := 4) sc_Counter_come_out.nd rfl (Or.inl rfl) (pe_op op_add (pe_op op_shl (pe_ix ix_list (pe_fld (pv 0) rfl) (pv 3) (fun _ _ => rfl)) (pe_fld (pv 0) rfl)) (pv 3))) (pss_cons (ps_augS (pe_fld (pv 0) rfl) (pv 3) (get_list (K := K) rfl) pe_int ip_add set_list) (pss_cons (ps_expr (pe_bm PySem.F.plainAttrs_list PySem.F.slot_list_append PySem.F.type_list_append mt_append (pe_fld (pv 0) rfl) (pa_cons (pv 4) pa_nil))) (pss_cons (ps_asg pe_non (pg_sub (pe_fld (pv 0) rfl) (pv 1) set_list)) (pss_one (ps_ret (pv 4)))))))), ?_⟩
  obtain ⟨dx, vg, vo, hp, hr, ro, rfl, ho⟩ := id hc.ob
  have p8 := pow8 k3
  obtain ⟨lR, lm, li⟩ := lineF' k3 hl
  refine ⟨_, rfl, p, C, dx, _, _, rfl, hp, T.cl, T.n3, f_out, ⟨ro, _, rfl, ho⟩, _, rfl, ro, lineR k, l, rfl, rfl, ho.sqT, lm, by omega, ?_⟩
  generalize hj : (lineR k).idxOf l = j at li ⊢
  have hjo : j < st.outs.length := by rw [ok.o]; exact li
  have hco : (natsV st.outs)[j]? = some (.int (st.outs.getD j 0 : Nat)) := natsV_get? (by rw [getD_lt hjo]; exact List.getElem?_eq_getElem hjo)
  have bj : st.outs.getD j 0 ≤ 1000 := ib _ (by rw [getD_lt hjo]; exact List.getElem_mem hjo)
  refine ⟨_, rfl, p, C, dx, _, _, rfl, hp, T.cl, T.n6, f_co, _, rfl, lc, _, j, _, rfl, rfl, SqL.of hc.co, atI_nat hco, _, rfl, p, C, dx, _, _, rfl, hp, T.cl, T.n1, f_depth, _, _, rfl, rfl, ⟨by omega, by omega, by omega⟩, _, rfl, _, _, rfl, rfl, ?_⟩
  refine ⟨_, rfl, p, C, dx, _, _, rfl, hp, T.cl, T.n6, f_co, _, rfl, lc, _, j, _, rfl, rfl, SqL.of hc.co, hco, _, _, rfl, rfl, lc, _, _, j, rfl, rfl, hc.co, ixN_nat (by omega) (by rw [Int.toNat_natCast, natsV_len]; exact hjo), ?_⟩
  rw [Int.toNat_natCast, show (natsV st.outs).set j (V.int ((st.outs.getD j 0 : Nat) + 1)) = natsV (st.outs.set j (st.outs.getD j 0 + 1)) by unfold natsV; rw [List.map_set]; rfl]
  have hc1 := hc.setC (st.outs.set j (st.outs.getD j 0 + 1))
  have g1 := Grow.set (m := [lt, lc, lg]) hc.co (by simp) (natsV (st.outs.set j (st.outs.getD j 0 + 1)))
  generalize upd H lc (.lst (natsV (st.outs.set j (st.outs.getD j 0 + 1)))) = H1 at hc1 g1 ⊢
  obtain ⟨dx1, vg1, vo1, hp1, _⟩ := id hc1.ob
  have hg : H1 lg = some (.lst (natsV st.gv)) := hc1.gv
  have eN : V.int ((st.outs.getD j 0 : Nat) * 2 ^ ((k : Int)).toNat + (j : Int)) = V.int (outN k st l : Nat) := by
    unfold outN
    rw [hj, Int.toNat_natCast, Int.natCast_add, Int.natCast_mul, Int.natCast_pow]
    rfl
  refine ⟨_, rfl, p, C, dx1, _, _, rfl, hp1, T.cl, T.n7, f_gv, .inl ⟨rfl, _, SqL.of hg⟩, _, rfl, lg, _, _, rfl, rfl, hg, small1000 (by rw [natsV_len]; omega), ?_⟩
  have hc2 := hc1.addG (outN k st l)
  have g2 := Grow.set (m := [lt, lc, lg]) hg (by simp) (natsV (st.gv ++ [outN k st l]))
  have e2 : natsV st.gv ++ [V.int ((st.outs.getD j 0 : Nat) * 2 ^ ((k : Int)).toNat + (j : Int))] = natsV (st.gv ++ [outN k st l]) := by rw [eN]; unfold natsV; rw [List.map_append]; rfl
  show tSeq _ _ _ _ (upd H1 lg (.lst (natsV st.gv ++ [V.int ((st.outs.getD j 0 : Nat) * 2 ^ ((k : Int)).toNat + (j : Int))])))
  rw [e2]
  have hc2' : CtrAt K C k p lu lt lc lg (upd H1 lg (.lst (natsV (st.gv ++ [outN k st l])))) ⟨st.ups, st.toks, st.outs.set j (st.outs.getD j 0 + 1), st.gv ++ [outN k st l]⟩ := hc2
  generalize upd H1 lg (.lst (natsV (st.gv ++ [outN k st l]))) = H2 at hc2' g2 ⊢
  obtain ⟨dx2, vg2, vo2, hp2, _⟩ := id hc2'.ob
  obtain ⟨ys, hy, hya⟩ := id hc2'.tk
  have hyl : ys.length = st.toks.length := hya.len
  refine ⟨_, rfl, p, C, dx2, _, _, rfl, hp2, T.cl, T.n5, f_tok, _, rfl, lt, ys, t, t, rfl, rfl, hy, ixN_nat (by omega) (by rw [Int.toNat_natCast]; omega), _, rfl, ?_⟩
  have hc3 := hc2'.setT (ys := ys.set t V.non) (ts := st.toks.set t none) (AllR.set (k := none) rfl hya)
  have g3 := Grow.set (m := [lt, lc, lg]) hy (by simp) (ys.set t V.non)
  show Q (V.int ((st.outs.getD j 0 : Nat) * 2 ^ ((k : Int)).toNat + (j : Int))) _
  rw [eN]
  refine q _ (g1.trans (g2.trans g3)) ?_
  show CtrAt K C k p lu lt lc lg _ ⟨st.ups, st.toks.set t none, st.outs.set ((lineR k).idxOf l) (st.outs.getD ((lineR k).idxOf l) 0 + 1), st.gv ++ [outN k st l]⟩
  rw [hj]
  exact hc3
theorem sc_Counter_go : FnScope ["self", "token", "line", "behind", "to_come", "at", "first", "second"] ["self", "token"] (defScope (inClass (top 18) 2)) := ⟨rfl, rfl, rfl, by decide +kernel, rfl, by decide +kernel, by decide +kernel⟩
set_option maxHeartbeats 0 in
theorem ok_Counter_go {n : Nat} {f : Addr} {fd : FuncData} (F : Fun K "go" "Counter.go" (inClass (top 18) 2) f fd) (B : Blt mg) {C : Addr} (T : CTxt K mg C) {A_NoToken : Addr} (x_NoToken : ExcC K mg "NoToken" A_NoToken) (mc_come_out : MCallee P w K mg base C n "come_out" ["self", "token", "line"] (sp_come_out87 C K)) (c_is_within : Callee P w K mg base n "is_within" ["thing", "least", "greatest"] (sp_withinO K))    :
    FnOk P w K mg base (CX1 P w) (n + 1) f fd ["self", "token"] (sp_go88 A_NoToken A_NoToken A_NoToken C K) := by
  refine Fun.okX F sc_Counter_go spX2_len (fun cdv A outer s H vs Q E hr h => ?_)
  obtain ⟨x, y, rfl, p, lu, lt, lc, lg, k, d, m, st, rfl, hd, k3, hc, gd, q⟩ := h
  refine ⟨_, (pss_cons (ps_if (PW.pt (pw_or (pt_not (pt_val (pe_callC c_is_within hr rfl (pa_cons (pv 1) (pa_cons pe_int (pa_cons (pe_op op_sub (pe_callB call_len_seq rfl B.len b_len (pa_cons (pe_fld (pv 0) rfl) pa_nil)) pe_int) pa_nil)))))) (pw_or1 (pt_cmp (pc_isN (pe_ix ix_list (pe_fld (pv 0) rfl) (pv 1) (fun _ _ => rfl))))))) (pss_one (ps_raise rfl x_NoToken rfl raises_cx pe_str)) pss_nil) (pss_cons (ps_asg (pe_ix ix_list (pe_fld (pv 0) rfl) (pv 1) (fun _ _ => rfl)) (pg_tup rfl (pgs_cons (pg_name (i := 2) sc_Counter_go.nd rfl (Or.inr rfl)) (pgs_cons (pg_name (i := 3) sc_Counter_go.nd rfl (Or.inl rfl)) pgs_nil)))) (pss_cons (ps_compT (i := 4) sc_Counter_go.nd rfl rfl (CSc.of (N' := ["at", "line", "self"]) (sub := [none, some 2, some 0]) (defScope (inClass (top 18) 2)) ["self", "token", "line", "behind", "to_come", "at", "first", "second"] rfl rfl (by decide +kernel) rfl) rfl (pi_range2 rfl B.range (pa_cons (pv 3) (pa_cons (pe_callB call_len_seq rfl B.len b_len (pa_cons (pe_fld (pv 0) rfl) pa_nil)) pa_nil))) (fun _ _ _ _ _ _ => pg_name (i := 0) (show (["at", "line", "self"] : List Str).Nodup by decide +kernel) rfl (Or.inl rfl)) (fun _ _ _ _ _ _ => (pifs_one (pt_cmpR (op_inK (K := K) rfl) (pv 1) (pe_ix (ix_tupK (K := K) rfl) (pe_fldK (K := K) rfl (pv 2) rfl) (pv 0) (fun _ _ => rfl)) (by with_unfolding_all rfl)))) (fun _ _ _ _ _ _ => (pv 0))) (pss_cons (ps_if (pt_not (pt_truth (pv 4) (fun _ => rfl))) (pss_one (ps_ret (pe_methC mc_come_out T.cl hr (pv 0) (pa_cons (pv 1) (pa_cons (pv 2) pa_nil))))) pss_nil) (pss_cons (ps_set (i := 5) sc_Counter_go.nd rfl (Or.inl rfl) (pe_ix ix_list (pv 4) pe_int (fun _ _ => rfl))) (pss_cons (ps_asg (pe_ix ix_tup (pe_fld (pv 0) rfl) (pv 5) (fun _ _ => rfl)) (pg_tup rfl (pgs_cons (pg_name (i := 6) sc_Counter_go.nd rfl (Or.inl rfl)) (pgs_cons (pg_name (i := 7) sc_Counter_go.nd rfl (Or.inl rfl)) pgs_nil)))) (pss_cons (ps_asg (pe_tup (pa_cons (pe_ifExp (pt_val (pe_ix ix_list (pe_fld (pv 0) rfl) (pv 5) (fun _ _ => rfl))) (pv 6) (pv 7)) (pa_cons (pe_op op_add (pv 5) pe_int) pa_nil))) (pg_sub (pe_fld (pv 0) rfl) (pv 1) set_list)) (pss_cons (ps_asg (pe_not (pe_ix ix_list (pe_fld (pv 0) rfl) (pv 5) (fun _ _ => rfl))) (pg_sub (pe_fld (pv 0) rfl) (pv 5) set_list)) (pss_one (ps_ret pe_non)))))))))), ?_⟩
  obtain ⟨dx, vg, vo, hp, ⟨rg, xg, rfl, hsg, hag⟩, ho⟩ := id hc.ob
  obtain ⟨xs, hx, hxa⟩ := id hc.tk
  have hxl := hxa.len
  unfold goD at q
  refine ⟨_, rfl, _, rfl, p, C, dx, _, _, rfl, hp, T.cl, T.n5, f_tok, lt, xs, rfl, .inl (SqL.of hx), _, _, rfl, rfl, _, _, _, rfl, d, m, 0, _, hd, rfl, rfl, _, rfl, ?_⟩
  rw [hxl]
  cases hw : withinD 0 ((st.toks.length : Int) - 1) d with
  | false =>
    rw [hw] at q
    exact iteT (iteT fun e => q e _ (Grow.refl _ _))
  | true =>
    rw [hw] at q
    refine iteF ?_
    obtain ⟨i, rfl, i0, i1⟩ := within_int hw
    obtain ⟨t, rfl⟩ : ∃ l : Nat, i = l := ⟨i.toNat, by omega⟩
    obtain rfl := hd.inv_int
    simp only [Int.toNat_natCast] at q
    have htl : t < st.toks.length := by omega
    obtain ⟨o, ho'⟩ : ∃ o, st.toks[t]? = some o := ⟨_, List.getElem?_eq_getElem htl⟩
    have hgt : st.toks.getD t none = o := by rw [List.getD_eq_getElem?_getD, ho']; rfl
    rw [hgt] at q
    cases o with
    | none =>
      obtain ⟨v, hv, hvn⟩ := hxa.getR ho'
      obtain rfl : v = .non := hvn
      exact ⟨_, rfl, p, C, dx, _, _, rfl, hp, T.cl, T.n5, f_tok, _, rfl, lt, xs, t, _, rfl, rfl, SqL.of hx, atI_nat hv, _, rfl, iteT fun e => q e _ (Grow.refl _ _)⟩
    | some lb =>
      obtain ⟨l, b⟩ := lb
      have ht := ho'
      have ok := gd.ok
      have tl := gd.t
      have gn : st.gv.length ≤ 900 := Nat.le_trans gd.g (by decide)
      have ib : ∀ v ∈ st.outs, v ≤ 1000 := fun v hv => Nat.le_trans (gd.o v hv) (by decide)
      have q : ∀ H', Grow [lu, lt, lc, lg] H H' → CtrAt K C k p lu lt lc lg H' (goS k st t l b) → Q (goV k st l b) H' := q
      obtain ⟨v, hv, rt, rfl, hrt⟩ := hxa.getR ht
      have R3 := rowF k3
      have hgl : xg.length = (rowsT k).length := hag.len
      obtain ⟨hl, hb⟩ := ok.t l b (List.mem_of_getElem? ht)
      refine ⟨_, rfl, p, C, dx, _, _, rfl, hp, T.cl, T.n5, f_tok, _, rfl, lt, xs, t, _, rfl, rfl, SqL.of hx, atI_nat hv, _, rfl, iteF ?_⟩
      refine ⟨_, rfl, p, C, dx, _, _, rfl, hp, T.cl, T.n5, f_tok, _, rfl, lt, xs, t, _, rfl, rfl, SqL.of hx, atI_nat hv, rt, _, rfl, hrt, rfl, _, _, rfl, _, _, rfl, rfl, ?_⟩
      refine ⟨_, rfl, _, rfl, p, C, dx, _, _, rfl, hp, T.cl, T.n2, f_gates, rg, xg, rfl, .inr hsg, _, _, rfl, ⟨by omega, by omega, by omega, by omega⟩, ?_⟩
      rw [show ((xg.length : Int) - (b : Int)).toNat = (rowsT k).length - b by omega]
      refine comp_rngF (fun i ys H' => H' = H ∧ ys = (tcm (rowsT k) l b i).map fun j : Nat => V.int ((b : Int) + j)) ⟨rfl, rfl⟩ ?_ ?_
      · rintro i ys H' hi ⟨rfl, rfl⟩
        have hbi : b + i < (rowsT k).length := by omega
        obtain ⟨vr, hvr, ⟨rr, rfl, hsr⟩⟩ := hag.getR (List.getElem?_eq_getElem hbi)
        have e0 : (rowsT k).getD (b + i) [] = (rowsT k)[b + i] := by rw [List.getD_eq_getElem?_getD, List.getElem?_eq_getElem hbi]; rfl
        refine ⟨_, rfl, _, rfl, p, C, dx, _, _, rfl, hp, T.cl, T.n2, f_gates, _, rfl, rg, xg, ((b + i : Nat) : Int), _, rfl, rfl, hsg, atI_nat hvr, rr, _, rfl, .inr hsr, rfl, flat_ints, ?_⟩
        show ∃ c, V.bl (inV (V.int l) ((rowsT k)[b + i].map V.int)) = V.bl c ∧ _
        rw [inV_ints, tcm_succ, e0]
        have sl : ((tcm (rowsT k) l b i).map fun j : Nat => V.int ((b : Int) + j)).length < sizeLine := small1000 (by rw [List.length_map]; have := tcm_len (rows := rowsT k) (l := l) (b := b) (n := i); omega)
        by_cases hm : (l : Int) ∈ (rowsT k)[b + i]
        · rw [decide_eq_true hm, if_pos hm]
          exact ⟨_, rfl, iteT ⟨_, rfl, sl, rfl, by rw [List.map_append]; rfl⟩⟩
        · rw [decide_eq_false hm, if_neg hm]
          exact ⟨_, rfl, iteF ⟨rfl, by rw [List.append_nil]⟩⟩
      rintro ys H' ⟨rfl, rfl⟩ ll hll
      have g0 := Grow.new (m := []) hll (.lst ((tcm (rowsT k) l b ((rowsT k).length - b)).map fun j : Nat => V.int ((b : Int) + j)))
      have hl0 : upd H' ll (.lst ((tcm (rowsT k) l b ((rowsT k).length - b)).map fun j : Nat => V.int ((b : Int) + j))) ll = some (.lst ((tcm (rowsT k) l b ((rowsT k).length - b)).map fun j : Nat => V.int ((b : Int) + j))) := upd_same
      have hc0 := hc.grow g0 (by simp) (by simp) (by simp) (by simp) (by simp)
      generalize upd H' ll (.lst ((tcm (rowsT k) l b ((rowsT k).length - b)).map fun j : Nat => V.int ((b : Int) + j))) = H0 at g0 hl0 hc0 ⊢
      unfold goS goV at q
      cases hk : tcm (rowsT k) l b ((rowsT k).length - b) with
      | nil =>
        rw [hk] at hl0 q
        obtain ⟨dx0, vg0, vo0, hp0, _⟩ := id hc0.ob
        refine ⟨_, rfl, false, .inl ⟨_, SqL.of hl0, rfl⟩, iteT ⟨_, rfl, p, dx0, _, rfl, hp0, f_no (by decide +kernel) (by decide +kernel) (by decide +kernel) (by decide +kernel) (by decide +kernel) (by decide +kernel) (by decide +kernel), _, rfl, _, rfl, _, _, _, rfl, p, lu, lt, lc, lg, k, t, l, st, rfl, rfl, rfl, k3, hc0, ok, hl, htl, gn, ib, fun H1 g1 hc1 => ?_⟩⟩
        exact q H1 (g0.wk.trans (g1.mono (by simp))) hc1
      | cons i r =>
        rw [hk] at hl0 q
        have hi := tcm_head hk
        refine ⟨_, rfl, true, .inl ⟨_, SqL.of hl0, rfl⟩, iteF ⟨_, rfl, ll, _, 0, _, rfl, rfl, SqL.of hl0, atI_nat (j := 0) rfl, ?_⟩⟩
        obtain ⟨dx0, vg0, vo0, hp0, ⟨rg0, xg0, rfl, hsg0, hag0⟩, _⟩ := id hc0.ob
        have hbi : b + i < (rowsT k).length := by omega
        obtain ⟨vr, hvr, ⟨rr, rfl, hsr⟩⟩ := hag0.getR (List.getElem?_eq_getElem hbi)
        have hR := R3.2 _ (List.getElem_mem hbi)
        obtain ⟨u, v, huv⟩ : ∃ u v, (rowsT k)[b + i] = [u, v] := by
          match (rowsT k)[b + i], hR.1 with
          | [u, v], _ => exact ⟨u, v, rfl⟩
        have hu := hR.2 u (by rw [huv]; simp)
        have hv' := hR.2 v (by rw [huv]; simp)
        rw [huv] at hsr
        refine ⟨_, rfl, p, C, dx0, _, _, rfl, hp0, T.cl, T.n2, f_gates, _, rfl, rg0, xg0, ((b + i : Nat) : Int), _, rfl, rfl, hsg0, atI_nat hvr, rr, _, rfl, hsr, rfl, _, _, rfl, _, _, rfl, rfl, ?_⟩
        have hul : b + i < st.ups.length := by rw [ok.u]; exact hbi
        have hup : (st.ups.map V.bl)[b + i]? = some (.bl (st.ups.getD (b + i) true)) := by rw [List.getElem?_map, List.getD_eq_getElem?_getD, List.getElem?_eq_getElem hul]; rfl
        refine ⟨_, rfl, p, C, dx0, _, _, rfl, hp0, T.cl, T.n4, f_ups, _, rfl, lu, _, ((b + i : Nat) : Int), _, rfl, rfl, SqL.of hc0.up, atI_nat hup, _, rfl, ite_var rfl rfl ?_⟩
        rw [lnN_eq (rows := rowsT k) (a := b + i) (by rw [List.getElem?_eq_getElem hbi, huv]) hu.1 hv'.1]
        generalize hln : lnN (rowsT k) (b + i) (st.ups.getD (b + i) true) = ln at q ⊢
        refine ⟨_, rfl, _, _, rfl, rfl, szl rfl, fun ra hra => ?_⟩
        have g1 := Grow.new (m := []) hra (.tup [V.int (ln : Nat), V.int (((b + i : Nat) : Int) + 1)])
        have hc1 := hc0.grow g1 (by simp) (by simp) (by simp) (by simp) (by simp)
        have hra1 : SqT K (upd H0 ra (.tup [V.int (ln : Nat), V.int (((b + i : Nat) : Int) + 1)])) ra [V.int (ln : Nat), V.int ((b + i + 1 : Nat) : Int)] := SqT.of upd_same
        show gSub _ _ _ _ _ (upd H0 ra (.tup [V.int (ln : Nat), V.int (((b + i : Nat) : Int) + 1)])) _
        generalize upd H0 ra (.tup [V.int (ln : Nat), V.int (((b + i : Nat) : Int) + 1)]) = H1 at g1 hc1 hra1 ⊢
        obtain ⟨dx1, vg1, vo1, hp1, _⟩ := id hc1.ob
        obtain ⟨ys, hy, hya⟩ := id hc1.tk
        have hyl : ys.length = st.toks.length := hya.len
        refine ⟨_, rfl, p, C, dx1, _, _, rfl, hp1, T.cl, T.n5, f_tok, _, rfl, lt, ys, t, t, rfl, rfl, hy, ixN_nat (by omega) (by rw [Int.toNat_natCast]; omega), ?_⟩
        have hc2 := hc1.setT (ys := ys.set t (V.ref ra)) (ts := st.toks.set t (some (ln, b + i + 1))) (AllR.set (k := some (ln, b + i + 1)) ⟨ra, rfl, hra1⟩ hya)
        have g2 := Grow.set (m := [lu, lt, lc, lg]) hy (by simp) (ys.set t (V.ref ra))
        generalize upd H1 lt (.lst (ys.set t (V.ref ra))) = H2 at g2 hc2 ⊢
        obtain ⟨dx2, vg2, vo2, hp2, _⟩ := id hc2.ob
        refine ⟨_, rfl, p, C, dx2, _, _, rfl, hp2, T.cl, T.n4, f_ups, _, rfl, lu, _, ((b + i : Nat) : Int), _, rfl, rfl, SqL.of hc2.up, atI_nat hup, _, rfl, ?_⟩
        refine ⟨_, rfl, p, C, dx2, _, _, rfl, hp2, T.cl, T.n4, f_ups, _, rfl, lu, _, ((b + i : Nat) : Int), b + i, rfl, rfl, hc2.up, ixN_nat (by omega) (by rw [Int.toNat_natCast, List.length_map]; exact hul), ?_⟩
        rw [show (List.map V.bl st.ups).set (b + i) (V.bl (!(st.ups.getD (b + i) true))) = (st.ups.set (b + i) (!(st.ups.getD (b + i) true))).map V.bl from List.map_set.symm]
        refine q _ (g0.wk.trans (g1.wk.trans (g2.trans (Grow.set hc2.up (by simp) _)))) ?_
        show CtrAt K C k p lu lt lc lg _ ⟨st.ups.set (b + i) (!(st.ups.getD (b + i) true)), st.toks.set t (some (lnN (rowsT k) (b + i) (st.ups.getD (b + i) true), b + i + 1)), st.outs, st.gv⟩
        rw [hln]
        exact hc2.setU _
theorem sc__law_told : FnScope ["_law_counter", "_law_deed", "_law_what", "_law_thing", "_law_found", "e"] ["_law_counter", "_law_deed"] (defScope (top 23)) := ⟨rfl, rfl, rfl, by decide +kernel, rfl, by decide +kernel, by decide +kernel⟩
set_option maxHeartbeats 0 in
theorem ok__law_told {n : Nat} {f : Addr} {fd : FuncData} (F : Fun K "_law_told" "_law_told" (top 23) f fd) (B : Blt mg) {C : Addr} (T : CTxt K mg C) {A_AskError : Addr} {A_NoSide : Addr} {A_TooMany : Addr} {A_NoToken : Addr} (x_AskError : ExcC K mg "AskError" A_AskError) (x_NoSide : ExcC K mg "NoSide" A_NoSide) (x_TooMany : ExcC K mg "TooMany" A_TooMany) (x_NoToken : ExcC K mg "NoToken" A_NoToken) (v_NoToken : mg "NoToken" = some (.ref A_NoToken)) (v_TooMany : mg "TooMany" = some (.ref A_TooMany)) (v_NoSide : mg "NoSide" = some (.ref A_NoSide)) (u_NoSide : PySem.W.mroIn K A_NoSide (.ref A_AskError) = some true) (k_NoSide : ExcK K A_NoSide) (q_NoSide_NoSide : PySem.W.kitOne K (.ref A_NoSide) (.ref A_NoSide) = some true) (q_NoSide_TooMany : PySem.W.kitOne K (.ref A_NoSide) (.ref A_TooMany) = some false) (q_NoSide_NoToken : PySem.W.kitOne K (.ref A_NoSide) (.ref A_NoToken) = some false) (u_TooMany : PySem.W.mroIn K A_TooMany (.ref A_AskError) = some true) (k_TooMany : ExcK K A_TooMany) (q_TooMany_NoSide : PySem.W.kitOne K (.ref A_TooMany) (.ref A_NoSide) = some false) (q_TooMany_TooMany : PySem.W.kitOne K (.ref A_TooMany) (.ref A_TooMany) = some true) (q_TooMany_NoToken : PySem.W.kitOne K (.ref A_TooMany) (.ref A_NoToken) = some false) (u_NoToken : PySem.W.mroIn K A_NoToken (.ref A_AskError) = some true) (k_NoToken : ExcK K A_NoToken) (q_NoToken_NoSide : PySem.W.kitOne K (.ref A_NoToken) (.ref A_NoSide) = some false) (q_NoToken_TooMany : PySem.W.kitOne K (.ref A_NoToken) (.ref A_TooMany) = some false) (q_NoToken_NoToken : PySem.W.kitOne K (.ref A_NoToken) (.ref A_NoToken) = some true) (mc_come : MCalleeX P w K mg base C n "come" ["self", "line"] (sp_come88 A_NoSide A_TooMany A_NoSide C K)) (mc_go : MCalleeX P w K mg base C n "go" ["self", "token"] (sp_go88 A_NoToken A_NoToken A_NoToken C K))     :
    FnOk P w K mg base CX0 (n + 1) f fd ["_law_counter", "_law_deed"] (sp_told88 C K) := by
  refine F.ok sc__law_told sp2_len (fun cdv A outer s H vs Q E hr h => ?_)
  obtain ⟨x, y, rfl, p, lu, lt, lc, lg, t, k, c, d, v, m, st, rfl, rfl, ht, hd, c1, k3, hc, gd, q⟩ := h
  refine ⟨_, (pss_cons (ps_asg (pv 1) (pg_tup rfl (pgs_cons (pg_name (i := 2) sc__law_told.nd rfl (Or.inl rfl)) (pgs_cons (pg_name (i := 3) sc__law_told.nd rfl (Or.inl rfl)) pgs_nil)))) (pss_cons (ps_set (i := 4) sc__law_told.nd rfl (Or.inl rfl) pe_non) (pss_cons (ps_tryAs (K := K) (i := 5) (E := (fun _ c' H' => c' = clsR A_NoSide A_TooMany A_NoToken (stepD k st c d).1 ∧ Grow [] H H')) rfl rfl rfl rfl x_AskError rfl sc__law_told.nd rfl rfl rfl (fun ps => (pss_one (ps_set (i := 4) sc__law_told.nd rfl (Or.inl rfl) (pe_ifExp (pt_cmpR op_eq (pv 2) pe_int (nomark _)) (pe_methX mc_come (pass_try rfl) T.cl hr (pv 0) (pa_cons (pv 3) pa_nil)) (pe_methX mc_go (pass_try rfl) T.cl hr (pv 0) (pa_cons (pv 3) pa_nil)))))) (fun e => (pss_one (ps_set (i := 4) sc__law_told.nd rfl (Or.inl rfl) (pe_lst (pa_cons (pe_callB (call_isiE (K := K) rfl) rfl B.isinstance b_isinstance (pa_cons (pv 5) (pa_cons (pe_glob rfl v_NoSide (show RelV (.ref A_NoSide) (.ref A_NoSide) from rfl)) pa_nil))) (pa_cons (pe_callB (call_isiE (K := K) rfl) rfl B.isinstance b_isinstance (pa_cons (pv 5) (pa_cons (pe_glob rfl v_TooMany (show RelV (.ref A_TooMany) (.ref A_TooMany) from rfl)) pa_nil))) (pa_cons (pe_callB (call_isiE (K := K) rfl) rfl B.isinstance b_isinstance (pa_cons (pv 5) (pa_cons (pe_glob rfl v_NoToken (show RelV (.ref A_NoToken) (.ref A_NoToken) from rfl)) pa_nil))) pa_nil)))))))) (pss_one (ps_ret (pv 4)))))), ?_⟩
  obtain ⟨dx, vg, vo, hp, _⟩ := id hc.ob
  refine ⟨_, rfl, t, _, rfl, ht, rfl, _, _, rfl, _, _, rfl, rfl, ?_⟩
  refine ⟨⟨_, rfl, rfl, _, rfl, ?_⟩, fun e C' σ' H' hl' hn hE => ?_⟩
  · have fin : ∀ z H', (stepD k st c d).1 = .val z → Grow [lu, lt, lc, lg] H H' → CtrAt K C k p lu lt lc lg H' (stepD k st c d).2 → Q z H' := fun z H' e g hc' => q z H' g hc' (by rw [e]; rfl) (fun l hz => by rcases step_val e with z0 | ⟨_, z0⟩ <;> rw [z0] at hz <;> cases hz)
    rcases (by omega : c = 0 ∨ c = 1) with rfl | rfl
    · refine iteT' (decide_eq_true rfl) ⟨_, rfl, p, dx, _, rfl, hp, f_no (by decide +kernel) (by decide +kernel) (by decide +kernel) (by decide +kernel) (by decide +kernel) (by decide +kernel) (by decide +kernel), _, rfl, _, _, rfl, p, lu, lt, lc, lg, k, d, m, st, rfl, hd, k3, hc, gd, RsX_come (A2 := A_NoToken) ?_⟩
      exact RsX_of (fun c' e H' h g => ⟨h.symm, g⟩) fun z H' h g hc' => ⟨_, rfl, fin z H' h g hc'⟩
    · refine iteF' (vint_ne (by decide)) ⟨_, rfl, p, dx, _, rfl, hp, f_no (by decide +kernel) (by decide +kernel) (by decide +kernel) (by decide +kernel) (by decide +kernel) (by decide +kernel) (by decide +kernel), _, rfl, _, _, rfl, p, lu, lt, lc, lg, k, d, m, st, rfl, hd, k3, hc, gd, RsX_go (A0 := A_NoSide) (A1 := A_TooMany) ?_⟩
      exact RsX_of (fun c' e H' h g => ⟨h.symm, g⟩) fun z H' h g hc' => ⟨_, rfl, fin z H' h g hc'⟩
  obtain ⟨hC, g⟩ := hE
  obtain ⟨s0, s1, s2, s3, s4, s5, rfl⟩ : ∃ a b c d e f, σ' = [a, b, c, d, e, f] := by
    match σ', hl' with
    | [a, b, c, d, e, f], _ => exact ⟨a, b, c, d, e, f, rfl⟩
  have es := step_st hC.symm
  rw [es] at q
  cases hr : (stepD k st c d).1 with
  | side =>
    rw [hr] at q hC
    obtain rfl : A_NoSide = C' := (Option.some.inj hC).symm
    refine ⟨u_NoSide, ?_⟩
    have gn := Grow.new (m := []) hn (ExO e A_NoSide)
    refine ⟨_, rfl, e, _, _, _, _, rfl, upd_same, (fun _ r => r), k_NoSide, q_NoSide_NoSide, _, rfl, e, _, _, _, _, rfl, upd_same, (fun _ r => r), k_NoSide, q_NoSide_TooMany, _, rfl, e, _, _, _, _, rfl, upd_same, (fun _ r => r), k_NoSide, q_NoSide_NoToken, szl rfl, fun l3 hl3 => ?_⟩
    have GG := g.trans (gn.trans (Grow.new hl3 (.lst [V.bl true, V.bl false, V.bl false])))
    exact ⟨_, rfl, q _ _ GG.wk (hc.grow GG (by simp) (by simp) (by simp) (by simp) (by simp)) ⟨l3, rfl, SqL.of upd_same⟩ (fun l hz => by cases hz; exact (g.trans gn).free (by simp) hl3)⟩
  | many =>
    rw [hr] at q hC
    obtain rfl : A_TooMany = C' := (Option.some.inj hC).symm
    refine ⟨u_TooMany, ?_⟩
    have gn := Grow.new (m := []) hn (ExO e A_TooMany)
    refine ⟨_, rfl, e, _, _, _, _, rfl, upd_same, (fun _ r => r), k_TooMany, q_TooMany_NoSide, _, rfl, e, _, _, _, _, rfl, upd_same, (fun _ r => r), k_TooMany, q_TooMany_TooMany, _, rfl, e, _, _, _, _, rfl, upd_same, (fun _ r => r), k_TooMany, q_TooMany_NoToken, szl rfl, fun l3 hl3 => ?_⟩
    have GG := g.trans (gn.trans (Grow.new hl3 (.lst [V.bl false, V.bl true, V.bl false])))
    exact ⟨_, rfl, q _ _ GG.wk (hc.grow GG (by simp) (by simp) (by simp) (by simp) (by simp)) ⟨l3, rfl, SqL.of upd_same⟩ (fun l hz => by cases hz; exact (g.trans gn).free (by simp) hl3)⟩
  | tok =>
    rw [hr] at q hC
    obtain rfl : A_NoToken = C' := (Option.some.inj hC).symm
    refine ⟨u_NoToken, ?_⟩
    have gn := Grow.new (m := []) hn (ExO e A_NoToken)
    refine ⟨_, rfl, e, _, _, _, _, rfl, upd_same, (fun _ r => r), k_NoToken, q_NoToken_NoSide, _, rfl, e, _, _, _, _, rfl, upd_same, (fun _ r => r), k_NoToken, q_NoToken_TooMany, _, rfl, e, _, _, _, _, rfl, upd_same, (fun _ r => r), k_NoToken, q_NoToken_NoToken, szl rfl, fun l3 hl3 => ?_⟩
    have GG := g.trans (gn.trans (Grow.new hl3 (.lst [V.bl false, V.bl false, V.bl true])))
    exact ⟨_, rfl, q _ _ GG.wk (hc.grow GG (by simp) (by simp) (by simp) (by simp) (by simp)) ⟨l3, rfl, SqL.of upd_same⟩ (fun l hz => by cases hz; exact (g.trans gn).free (by simp) hl3)⟩
  | val z =>
    rw [hr] at hC
    cases hC
theorem sc__law_draw : FnScope ["_law_pot_here", "_law_many", "_law_digit"] ["_law_pot_here", "_law_many"] (defScope (top 22)) := ⟨rfl, rfl, rfl, by decide +kernel, rfl, by decide +kernel, by decide +kernel⟩
set_option maxHeartbeats 0 in
theorem ok__law_draw {n : Nat} {f : Addr} {fd : FuncData} (F : Fun K "_law_draw" "_law_draw" (top 22) f fd) (B : Blt mg)     :
    FnOk P w K mg base CX0 (n + 1) f fd ["_law_pot_here", "_law_many"] (sp_take K) := by
  refine F.ok sc__law_draw sp2_len (fun cdv A outer s H vs Q E hr h => ?_)
  obtain ⟨x, y, rfl, a, m, rfl, rfl, ⟨p0, p1, hp, h0⟩, hm, hm2, q⟩ := h
  refine ⟨_, (pss_cons (ps_if (pt_cmpR op_gt (pe_ix ix_list (pv 0) pe_int (fun _ _ => rfl)) pe_int (nomark _)) (pss_cons (ps_asg (pe_callB call_divmodL rfl B.divmod b_divmod (pa_cons (pe_ix ix_list (pv 0) pe_int (fun _ _ => rfl)) (pa_cons (pv 1) pa_nil))) (pg_tup rfl (pgs_cons (pg_sub (pv 0) pe_int set_list) (pgs_cons (pg_name (i := 2) sc__law_draw.nd rfl (Or.inl rfl)) pgs_nil)))) (pss_one (ps_ret (pv 2)))) pss_nil) (pss_cons (ps_asg (pe_op op_mod (pe_op op_add (pe_op op_mulG (pe_ix ix_list (pv 0) pe_int (fun _ _ => rfl)) pe_int) pe_int) pe_int) (pg_sub (pv 0) pe_int set_list)) (pss_one (ps_ret (pe_op op_mod (pe_op op_fdivL (pe_op op_mod (pe_op op_mulG (pe_ix ix_list (pv 0) pe_int (fun _ _ => rfl)) (pe_ix ix_list (pv 0) pe_int (fun _ _ => rfl))) pe_int) pe_int) (pv 1)))))), ?_⟩
  refine ⟨_, rfl, a, _, _, _, rfl, rfl, SqL.of hp, rfl, _, _, rfl, rfl, _, rfl, ?_⟩
  refine ite2 (fun c => ?_) (fun c => ?_)
  · refine ⟨_, rfl, a, _, _, _, rfl, rfl, SqL.of hp, rfl, _, rfl, p0, m, rfl, ⟨hm, hm2⟩, fun t ht => ?_⟩
    have hp' : upd H t (.tup [.int (p0 / m), .int (p0 % m)]) a = some (.lst [.int p0, .int p1]) := by rw [upd_ne (ne_of_none hp ht)]; exact hp
    refine ⟨t, _, rfl, SqT.of upd_same, rfl, _, _, rfl, _, rfl, a, _, 0, 0, rfl, rfl, hp', rfl, _, _, rfl, rfl, ?_⟩
    exact ⟨_, rfl, q _ _ (Int.emod_nonneg _ (by omega)) (Int.emod_lt_of_pos _ hm) ((Grow.new ht _).trans (Grow.set hp' (by simp) _)) ⟨p0 / m, p1, upd_same, Int.ediv_nonneg h0 (by omega)⟩⟩
  · refine ⟨_, rfl, a, _, _, _, rfl, rfl, SqL.of hp, rfl, p1, 39373, rfl, rfl, mulOkR ⟨by decide, by decide⟩, _, _, rfl, rfl, _, _, rfl, rfl, (by show (0 : Int) < 2147483647; decide), _, rfl, a, _, 1, 1, rfl, rfl, hp, rfl, ?_⟩
    have b0 : 0 ≤ (p1 * 39373 + 11) % 2147483647 := Int.emod_nonneg _ (by decide)
    have b1 : (p1 * 39373 + 11) % 2147483647 < 2147483647 := Int.emod_lt_of_pos _ (by decide)
    refine ⟨_, rfl, a, _, _, _, rfl, rfl, SqL.of upd_same, rfl, _, rfl, a, _, _, _, rfl, rfl, SqL.of upd_same, rfl, (p1 * 39373 + 11) % 2147483647, (p1 * 39373 + 11) % 2147483647, rfl, rfl, mulOkR ⟨by omega, by omega⟩, _, _, rfl, rfl, (by show (0 : Int) < 2147483629; decide), _, _, rfl, rfl, ⟨by decide, by decide⟩, _, rfl, _, _, rfl, rfl, hm, ?_⟩
    exact q _ _ (Int.emod_nonneg _ (by omega)) (Int.emod_lt_of_pos _ hm) (Grow.set hp (by simp) _) ⟨p0, (p1 * 39373 + 11) % 2147483647, upd_same, h0⟩
theorem sc__law_odd_line : FnScope ["_law_pot_here", "_law_lines", "_law_menu"] ["_law_pot_here", "_law_lines"] (defScope (top 25)) := ⟨rfl, rfl, rfl, by decide +kernel, rfl, by decide +kernel, by decide +kernel⟩
set_option maxHeartbeats 0 in
theorem ok__law_odd_line {n : Nat} {f : Addr} {fd : FuncData} (F : Fun K "_law_odd_line" "_law_odd_line" (top 25) f fd) (B : Blt mg) (c__law_draw : Callee P w K mg base n "_law_draw" ["_law_pot_here", "_law_many"] (sp_take K))    :
    FnOk P w K mg base CX0 (n + 1) f fd ["_law_pot_here", "_law_lines"] (sp_odd88 K) := by
  refine F.ok sc__law_odd_line sp2_len (fun cdv A outer s H vs Q E hr h => ?_)
  obtain ⟨x, y, rfl, p, n, m, rfl, pp, rfl, n40, pm, om, q⟩ := h
  refine ⟨_, (@pss_cons _ _ _ _ _ (@ps_set _ _ 2 _ _ _ _ sc__law_odd_line.nd rfl (Or.inl rfl) (@pe_lst _ _ _ _ (@pa_cons _ _ _ _ _ (pv 1) (@pa_cons _ _ _ _ _ (@pe_op _ _ _ _ _ _ _ _ op_add (@pe_op _ _ _ _ _ _ _ _ op_add (pv 1) pe_int) (@pe_callC _ _ _ _ _ _ _ _ _ _ c__law_draw hr rfl (@pa_cons _ _ _ _ _ (pv 0) (@pa_cons _ _ _ _ _ (@pe_op _ _ _ _ _ _ _ _ op_pow pe_int pe_int) pa_nil (by first | rfl | decide | exact Or.inl rfl | exact Or.inr rfl | exact Or.inr (Or.inl rfl) | exact Or.inr (Or.inr rfl) | exact fun _ => rfl | exact Nat.le_of_ble_eq_true rfl)) (by first | rfl | decide | exact Or.inl rfl | exact Or.inr rfl | exact Or.inr (Or.inl rfl) | exact Or.inr (Or.inr rfl) | exact fun _ => rfl | exact Nat.le_of_ble_eq_true rfl)) (by first | rfl | decide | exact Or.inl rfl | exact Or.inr rfl | exact Or.inr (Or.inl rfl) | exact Or.inr (Or.inr rfl) | exact fun _ => rfl | exact Nat.le_of_ble_eq_true rfl) (by first | rfl | decide | exact Or.inl rfl | exact Or.inr rfl | exact Or.inr (Or.inl rfl) | exact Or.inr (Or.inr rfl) | exact fun _ => rfl | exact Nat.le_of_ble_eq_true rfl) (by first | rfl | decide | exact Or.inl rfl | exact Or.inr rfl | exact Or.inr (Or.inl rfl) | exact Or.inr (Or.inr rfl) | exact fun _ => rfl | exact Nat.le_of_ble_eq_true rfl))) (@pa_cons _ _ _ _ _ (@pe_un _ _ _ _ _ _ un_neg pe_int) (@pa_cons _ _ _ _ _ (@pe_op _ _ _ _ _ _ _ _ op_sub (@pe_un _ _ _ _ _ _ un_neg (pv 1)) (@pe_callC _ _ _ _ _ _ _ _ _ _ c__law_draw hr rfl (@pa_cons _ _ _ _ _ (pv 0) (@pa_cons _ _ _ _ _ (@pe_op _ _ _ _ _ _ _ _ op_pow pe_int pe_int) pa_nil (by first | rfl | decide | exact Or.inl rfl | exact Or.inr rfl | exact Or.inr (Or.inl rfl) | exact Or.inr (Or.inr rfl) | exact fun _ => rfl | exact Nat.le_of_ble_eq_true rfl)) (by first | rfl | decide | exact Or.inl rfl | exact Or.inr rfl | exact Or.inr (Or.inl rfl) | exact Or.inr (Or.inr rfl) | exact fun _ => rfl | exact Nat.le_of_ble_eq_true rfl)) (by first | rfl | decide | exact Or.inl rfl | exact Or.inr rfl | exact Or.inr (Or.inl rfl) | exact Or.inr (Or.inr rfl) | exact fun _ => rfl | exact Nat.le_of_ble_eq_true rfl) (by first | rfl | decide | exact Or.inl rfl | exact Or.inr rfl | exact Or.inr (Or.inl rfl) | exact Or.inr (Or.inr rfl) | exact fun _ => rfl | exact Nat.le_of_ble_eq_true rfl) (by first | rfl | decide | exact Or.inl rfl | exact Or.inr rfl | exact Or.inr (Or.inl rfl) | exact Or.inr (Or.inr rfl) | exact fun _ => rfl | exact Nat.le_of_ble_eq_true rfl))) (@pa_cons _ _ _ _ _ pe_non (@pa_cons _ _ _ _ _ pe_bl (@pa_cons _ _ _ _ _ pe_str (@pa_cons _ _ _ _ _ (@po_tup _ K _ _ _ _ _ (@pos_consT _ _ _ _ _ _ _ po_int pos_nil (by first | rfl | decide | exact Or.inl rfl | exact Or.inr rfl | exact Or.inr (Or.inl rfl) | exact Or.inr (Or.inr rfl) | exact fun _ => rfl | exact Nat.le_of_ble_eq_true rfl)) (by first | rfl | decide | exact Or.inl rfl | exact Or.inr rfl | exact Or.inr (Or.inl rfl) | exact Or.inr (Or.inr rfl) | exact fun _ => rfl | exact Nat.le_of_ble_eq_true rfl)) pa_nil (by first | rfl | decide | exact Or.inl rfl | exact Or.inr rfl | exact Or.inr (Or.inl rfl) | exact Or.inr (Or.inr rfl) | exact fun _ => rfl | exact Nat.le_of_ble_eq_true rfl)) (by first | rfl | decide | exact Or.inl rfl | exact Or.inr rfl | exact Or.inr (Or.inl rfl) | exact Or.inr (Or.inr rfl) | exact fun _ => rfl | exact Nat.le_of_ble_eq_true rfl)) (by first | rfl | decide | exact Or.inl rfl | exact Or.inr rfl | exact Or.inr (Or.inl rfl) | exact Or.inr (Or.inr rfl) | exact fun _ => rfl | exact Nat.le_of_ble_eq_true rfl)) (by first | rfl | decide | exact Or.inl rfl | exact Or.inr rfl | exact Or.inr (Or.inl rfl) | exact Or.inr (Or.inr rfl) | exact fun _ => rfl | exact Nat.le_of_ble_eq_true rfl)) (by first | rfl | decide | exact Or.inl rfl | exact Or.inr rfl | exact Or.inr (Or.inl rfl) | exact Or.inr (Or.inr rfl) | exact fun _ => rfl | exact Nat.le_of_ble_eq_true rfl)) (by first | rfl | decide | exact Or.inl rfl | exact Or.inr rfl | exact Or.inr (Or.inl rfl) | exact Or.inr (Or.inr rfl) | exact fun _ => rfl | exact Nat.le_of_ble_eq_true rfl)) (by first | rfl | decide | exact Or.inl rfl | exact Or.inr rfl | exact Or.inr (Or.inl rfl) | exact Or.inr (Or.inr rfl) | exact fun _ => rfl | exact Nat.le_of_ble_eq_true rfl)) (by first | rfl | decide | exact Or.inl rfl | exact Or.inr rfl | exact Or.inr (Or.inl rfl) | exact Or.inr (Or.inr rfl) | exact fun _ => rfl | exact Nat.le_of_ble_eq_true rfl))) (by first | rfl | decide | exact Or.inl rfl | exact Or.inr rfl | exact Or.inr (Or.inl rfl) | exact Or.inr (Or.inr rfl) | exact fun _ => rfl | exact Nat.le_of_ble_eq_true rfl) (by first | rfl | decide | exact Or.inl rfl | exact Or.inr rfl | exact Or.inr (Or.inl rfl) | exact Or.inr (Or.inr rfl) | exact fun _ => rfl | exact Nat.le_of_ble_eq_true rfl)) (@pss_one _ _ _ (@ps_ret _ _ _ _ (@pe_ix _ _ _ _ _ _ _ ix_list (@pe_op _ _ _ _ _ _ _ _ op_cat (pv 2) (@pe_lst _ _ _ _ (@pa_cons _ _ _ _ _ (@po_lst _ K _ _ _ _ (@pos_consT _ _ _ _ _ _ _ po_int pos_nil (by first | rfl | decide | exact Or.inl rfl | exact Or.inr rfl | exact Or.inr (Or.inl rfl) | exact Or.inr (Or.inr rfl) | exact fun _ => rfl | exact Nat.le_of_ble_eq_true rfl)) (by first | rfl | decide | exact Or.inl rfl | exact Or.inr rfl | exact Or.inr (Or.inl rfl) | exact Or.inr (Or.inr rfl) | exact fun _ => rfl | exact Nat.le_of_ble_eq_true rfl)) (@pa_cons _ _ _ _ _ (po_dnil (K := K)) pa_nil star_dict) star_list))) (@pe_callC _ _ _ _ _ _ _ _ _ _ c__law_draw hr rfl (@pa_cons _ _ _ _ _ (pv 0) (@pa_cons _ _ _ _ _ pe_int pa_nil (by first | rfl | decide | exact Or.inl rfl | exact Or.inr rfl | exact Or.inr (Or.inl rfl) | exact Or.inr (Or.inr rfl) | exact fun _ => rfl | exact Nat.le_of_ble_eq_true rfl)) (by first | rfl | decide | exact Or.inl rfl | exact Or.inr rfl | exact Or.inr (Or.inl rfl) | exact Or.inr (Or.inr rfl) | exact fun _ => rfl | exact Nat.le_of_ble_eq_true rfl)) (by first | rfl | decide | exact Or.inl rfl | exact Or.inr rfl | exact Or.inr (Or.inl rfl) | exact Or.inr (Or.inr rfl) | exact fun _ => rfl | exact Nat.le_of_ble_eq_true rfl) (by first | rfl | decide | exact Or.inl rfl | exact Or.inr rfl | exact Or.inr (Or.inl rfl) | exact Or.inr (Or.inr rfl) | exact fun _ => rfl | exact Nat.le_of_ble_eq_true rfl) (by first | rfl | decide | exact Or.inl rfl | exact Or.inr rfl | exact Or.inr (Or.inl rfl) | exact Or.inr (Or.inr rfl) | exact fun _ => rfl | exact Nat.le_of_ble_eq_true rfl)) (fun _ _ => rfl))))), ?_⟩
  refine ⟨_, rfl, _, rfl, _, _, rfl, rfl, _, rfl, _, _, rfl, rfl, ⟨by decide, by decide, by decide⟩, _, _, rfl, p, _, rfl, rfl, pp, by decide, by decide, fun a1 H1 u1 v1 g1 pp1 => ⟨_, _, rfl, rfl, _, rfl, _, rfl, _, rfl, _, rfl, _, _, rfl, rfl, ⟨by decide, by decide, by decide⟩, _, _, rfl, p, _, rfl, rfl, pp1, by decide, by decide, fun a2 H2 u2 v2 g2 pp2 => ⟨_, _, rfl, rfl, ?_⟩⟩⟩
  have om2 := occ g2 pp2 (occ g1 pp1 om)
  refine ⟨m, trivial, om2, fun x3 H3 g3 o3 => ⟨szl rfl, fun l4 hl4 => ?_⟩⟩
  have om3 := grow_none g3 om2
  have d4 := Grow.new (m := []) hl4 (.lst ([V.int n, V.int (n + 1 + a1), V.int (-1), V.int (-n - a2), .non, .bl true, .str "0", x3] : List V))
  have om4 := grow_none d4 om3
  have pp4 := (pp2.grow g3).grow d4
  have h4 : upd H3 l4 (.lst ([V.int n, V.int (n + 1 + a1), V.int (-1), V.int (-n - a2), .non, .bl true, .str "0", x3] : List V)) l4 = some (.lst ([V.int n, V.int (n + 1 + a1), V.int (-1), V.int (-n - a2), .non, .bl true, .str "0", x3] : List V)) := upd_same
  refine ⟨_, rfl, m, trivial, om4, fun x5 H5 g5 o5 => ?_⟩
  have om5 := grow_none g5 om4
  refine ⟨m, trivial, om5, fun x6 H6 g6 o6 => ⟨szl rfl, fun l7 hl7 => ?_⟩⟩
  have d7 := Grow.new (m := []) hl7 (.lst [x5, x6])
  refine ⟨l4, l7, _, _, rfl, rfl, (g5.trans (g6.trans d7)).keep _ _ (by simp) h4, upd_same, szl rfl, fun l8 hl8 => ?_⟩
  have d8 := Grow.new (m := []) hl8 (.lst (([V.int n, V.int (n + 1 + a1), V.int (-1), V.int (-n - a2), .non, .bl true, .str "0", x3] : List V) ++ [x5, x6]))
  have pp6 := pp4.grow (g5.trans (g6.trans d7))
  have pp8 := pp6.grow d8
  have n8 : l8 ∉ [p] := fun z => pot_ne pp6 l8 z hl8
  have t8 : Ods K m _ (([V.int n, V.int (n + 1 + a1), V.int (-1), V.int (-n - a2), .non, .bl true, .str "0", x3] : List V) ++ [x5, x6]) (([.int n, .int (n + 1 + a1), .int (-1), .int (-n - a2), .none, .bool true, .str "0", .tuple [.int 0]] : List PyData) ++ [.list [.int 0], .dict []]) := (Ods.append (.cons (.int _) (.cons (.int _) (.cons (.int _) (.cons (.int _) (.cons .non (.cons (.bl _) (.cons (.str _) (.cons (o3.grow (d4.trans (g5.trans g6)).wk) .nil)))))))) (.cons (o5.grow g6.wk) (.cons o6 .nil))).grow ((d7.trans d8).wk (m := m))
  have G8 := g1.trans (g2.trans (g3.trans (d4.trans (g5.trans (g6.trans (d7.trans d8))))).wk)
  have h8 : upd (upd H6 l7 (.lst [x5, x6])) l8 (.lst (([V.int n, V.int (n + 1 + a1), V.int (-1), V.int (-n - a2), .non, .bl true, .str "0", x3] : List V) ++ [x5, x6])) l8 = some (.lst (([V.int n, V.int (n + 1 + a1), V.int (-1), V.int (-n - a2), .non, .bl true, .str "0", x3] : List V) ++ [x5, x6])) := upd_same
  have bd : ∀ d ∈ (([.int n, .int (n + 1 + a1), .int (-1), .int (-n - a2), .none, .bool true, .str "0", .tuple [.int 0]] : List PyData) ++ [.list [.int 0], .dict []]), withinD 0 ((n : Int) - 1) d = false := by
    intro d hd
    simp only [List.mem_cons, List.not_mem_nil, or_false, List.cons_append, List.nil_append] at hd
    rcases hd with rfl | rfl | rfl | rfl | rfl | rfl | rfl | rfl | rfl | rfl
    · exact out_up (by omega)
    · exact out_up (by omega)
    · exact out_neg (by decide)
    · by_cases z : (-(n : Int) - a2) < 0
      · exact out_neg z
      · exact out_up (by omega)
    all_goals rfl
  refine ⟨_, rfl, _, _, rfl, p, 10, rfl, rfl, pp8, by decide, by decide, fun n7 H7 u7 v7 g7 pp7 => ?_⟩
  have v7' : n7 < 10 := v7
  obtain ⟨j, rfl⟩ : ∃ j : Nat, n7 = j := ⟨n7.toNat, by omega⟩
  obtain ⟨x7, hx7⟩ : ∃ x, (([V.int n, V.int (n + 1 + a1), V.int (-1), V.int (-n - a2), .non, .bl true, .str "0", x3] : List V) ++ [x5, x6])[j]? = some x := ⟨_, List.getElem?_eq_getElem (by show j < 10; omega)⟩
  obtain ⟨d7, hd7, o7⟩ := t8.get hx7
  have bad := bd d7 (List.mem_of_getElem? hd7)
  exact ⟨l8, _, j, x7, rfl, rfl, SqL.of (g7.keep _ _ n8 h8), atI_nat hx7, q _ d7 H7 bad (G8.trans g7) pp7 (o7.grow (g7.mono (m' := m) fun b hb => List.mem_singleton.mp hb ▸ pm))⟩
theorem sc__law_odd_token : FnScope ["_law_pot_here", "_law_many_in", "_law_far", "_law_menu"] ["_law_pot_here", "_law_many_in"] (defScope (top 26)) := ⟨rfl, rfl, rfl, by decide +kernel, rfl, by decide +kernel, by decide +kernel⟩
set_option maxHeartbeats 0 in
theorem ok__law_odd_token {n : Nat} {f : Addr} {fd : FuncData} (F : Fun K "_law_odd_token" "_law_odd_token" (top 26) f fd) (B : Blt mg) (c__law_draw : Callee P w K mg base n "_law_draw" ["_law_pot_here", "_law_many"] (sp_take K))    :
    FnOk P w K mg base CX0 (n + 1) f fd ["_law_pot_here", "_law_many_in"] (sp_odd88 K) := by
  refine F.ok sc__law_odd_token sp2_len (fun cdv A outer s H vs Q E hr h => ?_)
  obtain ⟨x, y, rfl, p, n, m, rfl, pp, rfl, n40, pm, om, q⟩ := h
  refine ⟨_, (@pss_cons _ _ _ _ _ (@ps_set _ _ 2 _ _ _ _ sc__law_odd_token.nd rfl (Or.inl rfl) (@pe_op _ _ _ _ _ _ _ _ op_add pe_int (@pe_callC _ _ _ _ _ _ _ _ _ _ c__law_draw hr rfl (@pa_cons _ _ _ _ _ (pv 0) (@pa_cons _ _ _ _ _ (@pe_op _ _ _ _ _ _ _ _ op_pow pe_int pe_int) pa_nil (by first | rfl | decide | exact Or.inl rfl | exact Or.inr rfl | exact Or.inr (Or.inl rfl) | exact Or.inr (Or.inr rfl) | exact fun _ => rfl | exact Nat.le_of_ble_eq_true rfl)) (by first | rfl | decide | exact Or.inl rfl | exact Or.inr rfl | exact Or.inr (Or.inl rfl) | exact Or.inr (Or.inr rfl) | exact fun _ => rfl | exact Nat.le_of_ble_eq_true rfl)) (by first | rfl | decide | exact Or.inl rfl | exact Or.inr rfl | exact Or.inr (Or.inl rfl) | exact Or.inr (Or.inr rfl) | exact fun _ => rfl | exact Nat.le_of_ble_eq_true rfl) (by first | rfl | decide | exact Or.inl rfl | exact Or.inr rfl | exact Or.inr (Or.inl rfl) | exact Or.inr (Or.inr rfl) | exact fun _ => rfl | exact Nat.le_of_ble_eq_true rfl) (by first | rfl | decide | exact Or.inl rfl | exact Or.inr rfl | exact Or.inr (Or.inl rfl) | exact Or.inr (Or.inr rfl) | exact fun _ => rfl | exact Nat.le_of_ble_eq_true rfl))) (by first | rfl | decide | exact Or.inl rfl | exact Or.inr rfl | exact Or.inr (Or.inl rfl) | exact Or.inr (Or.inr rfl) | exact fun _ => rfl | exact Nat.le_of_ble_eq_true rfl) (by first | rfl | decide | exact Or.inl rfl | exact Or.inr rfl | exact Or.inr (Or.inl rfl) | exact Or.inr (Or.inr rfl) | exact fun _ => rfl | exact Nat.le_of_ble_eq_true rfl)) (@pss_cons _ _ _ _ _ (@ps_set _ _ 3 _ _ _ _ sc__law_odd_token.nd rfl (Or.inl rfl) (@pe_lst _ _ _ _ (@pa_cons _ _ _ _ _ (pv 1) (@pa_cons _ _ _ _ _ (@pe_op _ _ _ _ _ _ _ _ op_add (pv 1) (pv 2)) (@pa_cons _ _ _ _ _ (@pe_un _ _ _ _ _ _ un_neg pe_int) (@pa_cons _ _ _ _ _ (@pe_op _ _ _ _ _ _ _ _ op_sub (@pe_un _ _ _ _ _ _ un_neg (pv 1)) (pv 2)) (@pa_cons _ _ _ _ _ pe_non (@pa_cons _ _ _ _ _ pe_bl (@pa_cons _ _ _ _ _ pe_str (@pa_cons _ _ _ _ _ (@po_tup _ K _ _ _ _ _ (@pos_consT _ _ _ _ _ _ _ po_int pos_nil (by first | rfl | decide | exact Or.inl rfl | exact Or.inr rfl | exact Or.inr (Or.inl rfl) | exact Or.inr (Or.inr rfl) | exact fun _ => rfl | exact Nat.le_of_ble_eq_true rfl)) (by first | rfl | decide | exact Or.inl rfl | exact Or.inr rfl | exact Or.inr (Or.inl rfl) | exact Or.inr (Or.inr rfl) | exact fun _ => rfl | exact Nat.le_of_ble_eq_true rfl)) (@pa_cons _ _ _ _ _ (@po_lst _ K _ _ _ _ (@pos_consT _ _ _ _ _ _ _ po_int pos_nil (by first | rfl | decide | exact Or.inl rfl | exact Or.inr rfl | exact Or.inr (Or.inl rfl) | exact Or.inr (Or.inr rfl) | exact fun _ => rfl | exact Nat.le_of_ble_eq_true rfl)) (by first | rfl | decide | exact Or.inl rfl | exact Or.inr rfl | exact Or.inr (Or.inl rfl) | exact Or.inr (Or.inr rfl) | exact fun _ => rfl | exact Nat.le_of_ble_eq_true rfl)) (@pa_cons _ _ _ _ _ (po_dnil (K := K)) pa_nil star_dict) star_list) (by first | rfl | decide | exact Or.inl rfl | exact Or.inr rfl | exact Or.inr (Or.inl rfl) | exact Or.inr (Or.inr rfl) | exact fun _ => rfl | exact Nat.le_of_ble_eq_true rfl)) (by first | rfl | decide | exact Or.inl rfl | exact Or.inr rfl | exact Or.inr (Or.inl rfl) | exact Or.inr (Or.inr rfl) | exact fun _ => rfl | exact Nat.le_of_ble_eq_true rfl)) (by first | rfl | decide | exact Or.inl rfl | exact Or.inr rfl | exact Or.inr (Or.inl rfl) | exact Or.inr (Or.inr rfl) | exact fun _ => rfl | exact Nat.le_of_ble_eq_true rfl)) (by first | rfl | decide | exact Or.inl rfl | exact Or.inr rfl | exact Or.inr (Or.inl rfl) | exact Or.inr (Or.inr rfl) | exact fun _ => rfl | exact Nat.le_of_ble_eq_true rfl)) (by first | rfl | decide | exact Or.inl rfl | exact Or.inr rfl | exact Or.inr (Or.inl rfl) | exact Or.inr (Or.inr rfl) | exact fun _ => rfl | exact Nat.le_of_ble_eq_true rfl)) (by first | rfl | decide | exact Or.inl rfl | exact Or.inr rfl | exact Or.inr (Or.inl rfl) | exact Or.inr (Or.inr rfl) | exact fun _ => rfl | exact Nat.le_of_ble_eq_true rfl)) (by first | rfl | decide | exact Or.inl rfl | exact Or.inr rfl | exact Or.inr (Or.inl rfl) | exact Or.inr (Or.inr rfl) | exact fun _ => rfl | exact Nat.le_of_ble_eq_true rfl)) (by first | rfl | decide | exact Or.inl rfl | exact Or.inr rfl | exact Or.inr (Or.inl rfl) | exact Or.inr (Or.inr rfl) | exact fun _ => rfl | exact Nat.le_of_ble_eq_true rfl))) (by first | rfl | decide | exact Or.inl rfl | exact Or.inr rfl | exact Or.inr (Or.inl rfl) | exact Or.inr (Or.inr rfl) | exact fun _ => rfl | exact Nat.le_of_ble_eq_true rfl) (by first | rfl | decide | exact Or.inl rfl | exact Or.inr rfl | exact Or.inr (Or.inl rfl) | exact Or.inr (Or.inr rfl) | exact fun _ => rfl | exact Nat.le_of_ble_eq_true rfl)) (@pss_one _ _ _ (@ps_ret _ _ _ _ (@pe_ix _ _ _ _ _ _ _ ix_list (pv 3) (@pe_callC _ _ _ _ _ _ _ _ _ _ c__law_draw hr rfl (@pa_cons _ _ _ _ _ (pv 0) (@pa_cons _ _ _ _ _ pe_int pa_nil (by first | rfl | decide | exact Or.inl rfl | exact Or.inr rfl | exact Or.inr (Or.inl rfl) | exact Or.inr (Or.inr rfl) | exact fun _ => rfl | exact Nat.le_of_ble_eq_true rfl)) (by first | rfl | decide | exact Or.inl rfl | exact Or.inr rfl | exact Or.inr (Or.inl rfl) | exact Or.inr (Or.inr rfl) | exact fun _ => rfl | exact Nat.le_of_ble_eq_true rfl)) (by first | rfl | decide | exact Or.inl rfl | exact Or.inr rfl | exact Or.inr (Or.inl rfl) | exact Or.inr (Or.inr rfl) | exact fun _ => rfl | exact Nat.le_of_ble_eq_true rfl) (by first | rfl | decide | exact Or.inl rfl | exact Or.inr rfl | exact Or.inr (Or.inl rfl) | exact Or.inr (Or.inr rfl) | exact fun _ => rfl | exact Nat.le_of_ble_eq_true rfl) (by first | rfl | decide | exact Or.inl rfl | exact Or.inr rfl | exact Or.inr (Or.inl rfl) | exact Or.inr (Or.inr rfl) | exact fun _ => rfl | exact Nat.le_of_ble_eq_true rfl)) (fun _ _ => rfl)))))), ?_⟩
  refine ⟨_, rfl, _, _, rfl, rfl, ⟨by decide, by decide, by decide⟩, _, _, rfl, p, _, rfl, rfl, pp, by decide, by decide, fun far H1 u1 v1 g1 pp1 => ⟨_, _, rfl, rfl, ?_⟩⟩
  have om1 := occ g1 pp1 om
  refine ⟨_, rfl, _, rfl, _, rfl, _, _, rfl, rfl, _, rfl, _, rfl, _, rfl, _, rfl, _, _, rfl, rfl, ?_⟩
  refine ⟨m, trivial, om1, fun x2 H2 g2 o2 => ?_⟩
  have om2 := grow_none g2 om1
  refine ⟨m, trivial, om2, fun x3 H3 g3 o3 => ?_⟩
  have om3 := grow_none g3 om2
  refine ⟨m, trivial, om3, fun x4 H4 g4 o4 => ⟨szl rfl, fun l5 hl5 => ?_⟩⟩
  have g24 := g2.trans (g3.trans g4)
  have pp4 := pp1.grow g24
  have t4 : Ods K m H4 ([V.int n, V.int (n + (1 + far)), V.int (-1), V.int (-n - (1 + far)), .non, .bl true, .str "0", x2, x3, x4] : List V) ([.int n, .int (n + (1 + far)), .int (-1), .int (-n - (1 + far)), .none, .bool true, .str "0", .tuple [.int 0], .list [.int 0], .dict []] : List PyData) := .cons (.int _) (.cons (.int _) (.cons (.int _) (.cons (.int _) (.cons .non (.cons (.bl _) (.cons (.str _) (.cons (o2.grow (g3.trans g4).wk) (.cons (o3.grow g4.wk) (.cons o4 .nil)))))))))
  have d5 := Grow.new (m := []) hl5 (.lst ([V.int n, V.int (n + (1 + far)), V.int (-1), V.int (-n - (1 + far)), .non, .bl true, .str "0", x2, x3, x4] : List V))
  have n5 : l5 ∉ [p] := fun z => pot_ne pp4 l5 z hl5
  have h5 : upd H4 l5 (.lst ([V.int n, V.int (n + (1 + far)), V.int (-1), V.int (-n - (1 + far)), .non, .bl true, .str "0", x2, x3, x4] : List V)) l5 = some (.lst ([V.int n, V.int (n + (1 + far)), V.int (-1), V.int (-n - (1 + far)), .non, .bl true, .str "0", x2, x3, x4] : List V)) := upd_same
  have t5 := t4.grow (d5.mono (m' := m) (by simp))
  have pp5 := pp4.grow d5
  have G5 := g1.trans (g24.trans d5).wk
  have bd : ∀ d ∈ ([.int n, .int (n + (1 + far)), .int (-1), .int (-n - (1 + far)), .none, .bool true, .str "0", .tuple [.int 0], .list [.int 0], .dict []] : List PyData), withinD 0 ((n : Int) - 1) d = false := by
    intro d hd
    simp only [List.mem_cons, List.not_mem_nil, or_false, List.cons_append, List.nil_append] at hd
    rcases hd with rfl | rfl | rfl | rfl | rfl | rfl | rfl | rfl | rfl | rfl
    · exact out_up (by omega)
    · exact out_up (by omega)
    · exact out_neg (by decide)
    · by_cases z : (-(n : Int) - (1 + far)) < 0
      · exact out_neg z
      · exact out_up (by omega)
    all_goals rfl
  refine ⟨_, rfl, _, rfl, _, _, rfl, p, 10, rfl, rfl, pp5, by decide, by decide, fun n7 H7 u7 v7 g7 pp7 => ?_⟩
  have v7' : n7 < 10 := v7
  obtain ⟨j, rfl⟩ : ∃ j : Nat, n7 = j := ⟨n7.toNat, by omega⟩
  obtain ⟨x7, hx7⟩ : ∃ x, (([V.int n, V.int (n + (1 + far)), V.int (-1), V.int (-n - (1 + far)), .non, .bl true, .str "0", x2, x3, x4] : List V))[j]? = some x := ⟨_, List.getElem?_eq_getElem (by show j < 10; omega)⟩
  obtain ⟨d7, hd7, o7⟩ := t5.get hx7
  have bad := bd d7 (List.mem_of_getElem? hd7)
  exact ⟨l5, _, j, x7, rfl, rfl, SqL.of (g7.keep _ _ n5 h5), atI_nat hx7, q _ d7 H7 bad (G5.trans g7) pp7 (o7.grow (g7.mono (m' := m) fun b hb => List.mem_singleton.mp hb ▸ pm))⟩
theorem sc__law_done : FnScope ["_law_pot_here", "_law_counter", "_law_lines", "_law_many_in", "_law_out", "_law_what", "_law_ahead", "_law_deed", "_law_due", "_law_found"] ["_law_pot_here", "_law_counter", "_law_lines", "_law_many_in", "_law_out"] (defScope (top 27)) := ⟨rfl, rfl, rfl, by decide +kernel, rfl, by decide +kernel, by decide +kernel⟩
set_option maxHeartbeats 0 in
theorem ok__law_done {n : Nat} {f : Addr} {fd : FuncData} (F : Fun K "_law_done" "_law_done" (top 27) f fd) (B : Blt mg) (c__law_state : Callee P w K mg base n "_law_state" ["_law_counter"] (sp_state88 C K)) (c__law_told : Callee P w K mg base n "_law_told" ["_law_counter", "_law_deed"] (sp_told88 C K)) (c__law_odd_line : Callee P w K mg base n "_law_odd_line" ["_law_pot_here", "_law_lines"] (sp_odd88 K)) (c__law_odd_token : Callee P w K mg base n "_law_odd_token" ["_law_pot_here", "_law_many_in"] (sp_odd88 K)) (c__law_draw : Callee P w K mg base n "_law_draw" ["_law_pot_here", "_law_many"] (sp_take K))    :
    FnOk P w K mg base CX0 (n + 1) f fd ["_law_pot_here", "_law_counter", "_law_lines", "_law_many_in", "_law_out"] (sp_done88 C K) := by
  refine F.ok sc__law_done sp5_len (fun cdv A outer s H vs Q E hr h => ?_)
  obtain ⟨x1, x2, x3, x4, x5, rfl, p, c, lu, lt, lc, lg, lo, k, st, os, m, occm, msub, rfl, pp, rfl, k3, hc, gd, rfl, rfl, rfl, hlo, oo, ap, nlo, q⟩ := h
  refine ⟨_, (pss_cons (ps_set (i := 5) sc__law_done.nd rfl (Or.inl rfl) (pe_callC c__law_draw hr rfl (pa_cons (pv 0) (pa_cons pe_int pa_nil)))) (pss_cons (ps_set (i := 6) sc__law_done.nd rfl (Or.inl rfl) (pe_callC c__law_state hr rfl (pa_cons (pv 1) pa_nil))) (pss_cons (ps_if (pt_cmpR op_eq (pv 5) pe_int (nomark _)) (pss_one (ps_par (i := 7) (j := 8) rfl sc__law_done.nd rfl rfl (by decide) rfl rfl (pa_cons (pe_tup (pa_cons pe_int (pa_cons (pe_callC c__law_odd_line hr rfl (pa_cons (pv 0) (pa_cons (pv 2) pa_nil))) pa_nil))) (pa_cons (pe_lst (pa_cons pe_bl (pa_cons pe_bl (pa_cons pe_bl pa_nil)))) pa_nil star_list)) rfl)) (pss_one (ps_if (pt_cmpR op_eq (pv 5) pe_int (nomark _)) (pss_one (ps_par (i := 7) (j := 8) rfl sc__law_done.nd rfl rfl (by decide) rfl rfl (pa_cons (pe_tup (pa_cons pe_int (pa_cons (pe_callC c__law_odd_token hr rfl (pa_cons (pv 0) (pa_cons (pv 3) pa_nil))) pa_nil))) (pa_cons (pe_lst (pa_cons pe_bl (pa_cons pe_bl (pa_cons pe_bl pa_nil)))) pa_nil star_list)) rfl)) (pss_one (ps_if (PW.pt (pw_and (pt_cmpR op_eq (pv 5) pe_int (nomark _)) (pw_and1 (pt_cmpR (op_neNil (K := K) rfl hr) (pv 4) (pe_lst pa_nil) (nomark _))))) (pss_one (ps_par (i := 7) (j := 8) rfl sc__law_done.nd rfl rfl (by decide) rfl rfl (pa_cons (pe_tup (pa_cons pe_int (pa_cons (pe_ix ix_list (pv 4) (pe_callC c__law_draw hr rfl (pa_cons (pv 0) (pa_cons (pe_callB call_len_seq rfl B.len b_len (pa_cons (pv 4) pa_nil)) pa_nil))) (fun _ _ => rfl)) pa_nil))) (pa_cons (pe_lst (pa_cons pe_bl (pa_cons pe_bl (pa_cons pe_bl pa_nil)))) pa_nil star_list)) rfl)) (pss_one (ps_if (PW.pt (pw_or (pt_cmpR op_lt (pv 5) pe_int (nomark _)) (pw_or1 (pt_cmpR op_eq (pv 3) pe_int (nomark _))))) (pss_cons (ps_par (i := 7) (j := 8) rfl sc__law_done.nd rfl rfl (by decide) rfl rfl (pa_cons (pe_tup (pa_cons pe_int (pa_cons (pe_callC c__law_draw hr rfl (pa_cons (pv 0) (pa_cons (pv 2) pa_nil))) pa_nil))) (pa_cons (pv 3) pa_nil)) rfl) (pss_one (ps_if (pt_cmpR op_eq (pv 3) pe_int (nomark _)) (pss_one (ps_set (i := 8) sc__law_done.nd rfl (Or.inl rfl) (pe_lst (pa_cons pe_bl (pa_cons pe_bl (pa_cons pe_bl pa_nil)))))) pss_nil))) (pss_cons (ps_par (i := 7) (j := 8) rfl sc__law_done.nd rfl rfl (by decide) rfl rfl (pa_cons (pe_tup (pa_cons pe_int (pa_cons (pe_callC c__law_draw hr rfl (pa_cons (pv 0) (pa_cons (pv 3) pa_nil))) pa_nil))) (pa_cons pe_str pa_nil)) rfl) (pss_one (ps_if (pt_cmpR op_in_seq (pe_ix ix_tup (pv 7) pe_int (fun _ _ => rfl)) (pv 4) (by with_unfolding_all rfl)) (pss_one (ps_set (i := 8) sc__law_done.nd rfl (Or.inl rfl) (pe_lst (pa_cons pe_bl (pa_cons pe_bl (pa_cons pe_bl pa_nil)))))) pss_nil)))))))))) (pss_cons (ps_set (i := 9) sc__law_done.nd rfl (Or.inl rfl) (pe_callC c__law_told hr rfl (pa_cons (pv 1) (pa_cons (pv 7) pa_nil)))) (pss_cons (ps_if (PW.pt (pw_or (PW.pt (pw_and (pt_val (pe_callB call_isi rfl B.isinstance b_isinstance (pa_cons (pv 8) (pa_cons (pe_tyn rfl B.list b_list) pa_nil)))) (pw_and1 (pt_cmpR (op_neD (K := K) rfl hr) (pe_callC c__law_state hr rfl (pa_cons (pv 1) pa_nil)) (pv 6) (nomark _))))) (pw_or1 (PW.pt (pw_and (pt_cmpR (op_eqM (K := K) rfl hr) (pv 8) pe_str (nomark _)) (pw_and1 (pt_val (pe_callB call_isi rfl B.isinstance b_isinstance (pa_cons (pv 9) (pa_cons (pe_tyn rfl B.list b_list) pa_nil)))))))))) (pss_one (ps_ret pe_non)) pss_nil) (pss_one (ps_ret (pe_ifExp (pt_cmpR (op_inM (K := K) rfl hr) (pv 8) (pe_tup (pa_cons pe_str (pa_cons (pv 9) pa_nil))) (by with_unfolding_all rfl)) (pe_tup (pa_cons (pv 7) (pa_cons (pv 9) pa_nil))) pe_non)))))))), ?_⟩
  have apn : ∀ a ∈ [c, lu, lt, lc, lg], a ∉ [p] := fun a ha z => ap (List.mem_singleton.mp z ▸ ha)
  have lop : lo ∉ [p] := by simpa using nlo
  have ms : ∀ b ∈ [p], b ∈ [p, lu, lt, lc, lg] := by simp
  refine c_asg (fun v H' => ∃ wh : Nat, v = .int wh ∧ wh < 8 ∧ Grow [p] H H' ∧ Pot H' p) (fun Kk hk => ⟨_, rfl, _, _, rfl, p, 8, rfl, rfl, pp, by decide, by decide, fun n H' u v g pp' => hk _ _ ⟨n.toNat, congrArg V.int (by omega), by omega, g, pp'⟩⟩) ?_
  rintro v H1 ⟨wh, rfl, wh8, g1, pp1⟩
  have hc1 := hc.grow g1 (apn _ (by simp)) (apn _ (by simp)) (apn _ (by simp)) (apn _ (by simp)) (apn _ (by simp))
  refine c_asg (fun v H' => Grow [] H1 H' ∧ ∀ m, Od K m H' v (stD st)) (fun Kk hk => ⟨_, rfl, _, rfl, c, lu, lt, lc, lg, k, st, rfl, hc1, gd, fun ah H2 g2 oa2 => hk _ _ ⟨g2, oa2⟩⟩) ?_
  rintro ah H2 ⟨g2, oa2⟩
  have hc2 := hc1.grow g2 (by simp) (by simp) (by simp) (by simp) (by simp)
  have pp2 := pp1.grow g2
  have hlo2 := g2.keep _ _ (by simp) (g1.keep _ _ lop hlo)
  have p8 := pow8 k3
  have p1 := Nat.two_pow_pos k
  have occ2 : ∀ b ∈ m, H2 b ≠ none := grow_none g2 (occ g1 pp1 occm)
  refine c_if (fun σ H' => ∃ (dd : Addr) (w : Nat) (v x : V) (d : PyData), σ = [some (.ref p), some (.ref c), some (.int (2 ^ k : Nat)), some (.int st.toks.length), some (.ref lo), some (.int wh), some ah, some (.ref dd), some x, none] ∧ w ≤ 1 ∧ Grow [p] H2 H' ∧ Pot H' p ∧ SqT K H' dd [.int w, v] ∧ Od K m H' v d ∧ DuAt m H' x (stepD k st w d).1) ?_ ?_
  · rintro σ H3 ⟨dd, w, v, x, d, rfl, w1, g3, pp3, sd3, od3, du⟩
    have hc3 := hc2.grow g3 (apn _ (by simp)) (apn _ (by simp)) (apn _ (by simp)) (apn _ (by simp)) (apn _ (by simp))
    refine ⟨_, rfl, _, rfl, _, _, rfl, c, lu, lt, lc, lg, dd, k, w, d, v, _, st, rfl, rfl, sd3, od3, w1, k3, hc3, gd, fun f H4 g4 hc4 rs4 fr4 => ?_⟩
    have fin : ∀ (r : Addr) (H' : Hp), Grow [] H4 H' → SqT K H' r [.ref dd, f] → Q (.ref r) H' := fun r H' g sr => by
      have gA : Grow [p, lu, lt, lc, lg] H H3 := (g1.mono ms).trans (g2.wk.trans (g3.mono ms))
      have g4' : Grow [p, lu, lt, lc, lg] H3 H4 := g4.mono (by intro b hb; exact List.mem_cons_of_mem _ hb)
      have gz : Grow [p, lu, lt, lc, lg] H3 H' := g4'.trans g.wk
      have npc : p ∉ [lu, lt, lc, lg] := fun z => ap (List.mem_cons_of_mem _ z)
      have pp4 : Pot H4 p := by
        obtain ⟨v0, v1, hv, v2⟩ := pp3
        exact ⟨v0, v1, g4.keep _ _ npc hv, v2⟩
      exact q r dd w v f d H' w1 (gA.trans gz) (pp4.grow g) (hc4.grow g (by simp) (by simp) (by simp) (by simp) (by simp)) sr (gz.sqT sd3) (od3.grow (gz.mono msub)) (RsAt.grow g rs4) (fun l hl z => occ g3 pp3 occ2 l z (fr4 l hl))
    rcases du with ⟨l, rfl, sl, nl, nv⟩ | ⟨n, rfl, e⟩ | ⟨rfl, z, e, zs⟩
    · have es : (stepD k st w d).2 = st := by
        cases hr : (stepD k st w d).1 with
        | side => exact step_st (A0 := p) (A1 := p) (A2 := p) (x := p) (by rw [hr]; rfl)
        | many => exact step_st (A0 := p) (A1 := p) (A2 := p) (x := p) (by rw [hr]; rfl)
        | tok => exact step_st (A0 := p) (A1 := p) (A2 := p) (x := p) (by rw [hr]; rfl)
        | val v => exact absurd hr (nv v)
      rw [es] at hc4
      obtain ⟨lf, rfl, sf⟩ := RsAt.lst rs4 nv
      have npc : p ∉ [lu, lt, lc, lg] := fun z => ap (List.mem_cons_of_mem _ z)
      have g4' : Grow [p, lu, lt, lc, lg] H3 H4 := g4.mono (by intro b hb; exact List.mem_cons_of_mem _ hb)
      have oa4 := ((oa2 [p, lu, lt, lc, lg]).grow (g3.mono ms)).grow g4'
      have sl4 : SqL K H4 l ((rsB (stepD k st w d).1).map V.bl) := SqL.of (g4'.keep _ _ (fun z => nl (msub _ z)) sl)
      refine ⟨_, rfl, _, _, _, _, rfl, .inr (.inl ⟨rfl, _, sl4⟩), kit_lst (d := .list []), _, rfl, iteT ?_⟩
      refine ⟨_, rfl, _, rfl, c, lu, lt, lc, lg, k, st, rfl, hc4, gd, fun y5 H5 g5 o5 => ⟨_, rfl, stD st, (dq_st (o5 [])).1, (dq_st (oa4.grow g5.wk)).1, (dq_st (o5 [])).2, depth_st, _, rfl, iteF ?_⟩⟩
      refine ⟨_, rfl, .inr ⟨l, "any", _, rfl, rfl, g5.sqL sl4, _, rfl, iteF (iteF ?_)⟩⟩
      refine ⟨_, rfl, _, rfl, szl rfl, fun t6 ht6 => ?_⟩
      have g6 := Grow.new (m := []) ht6 (.tup [V.str "any", .ref lf])
      refine .inr ⟨l, t6, lf, "any", (rsB (stepD k st w d).1).map .bool, rfl, rfl, SqT.of upd_same, .lst ((g5.trans g6).sqL sl4) dq_bls, .lst ((g5.trans g6).sqL sf) dq_bls, by rw [depth_bls]; decide, _, rfl, iteT ?_⟩
      exact ⟨_, rfl, _, rfl, szl rfl, fun t7 ht7 => fin t7 _ (g5.trans (g6.trans (Grow.new ht7 _))) (SqT.of upd_same)⟩
    · rw [e] at rs4
      obtain rfl : f = .int n := rs4
      refine ⟨_, rfl, _, _, _, _, rfl, rfl, kit_lst (d := .int n), _, rfl, iteF (iteF ⟨_, rfl, .inl ⟨rfl, _, rfl, iteF' (decide_eq_false fun z => nomatch z) (iteF ?_)⟩⟩)⟩
      refine ⟨_, rfl, _, rfl, szl rfl, fun t5 ht5 => .inl ⟨t5, _, rfl, .inr (SqT.of upd_same), rfl, rfl, _, rfl, iteT' inV_n ?_⟩⟩
      exact ⟨_, rfl, _, rfl, szl rfl, fun t6 ht6 => fin t6 _ ((Grow.new ht5 _).trans (Grow.new ht6 _)) (SqT.of upd_same)⟩
    · rw [e] at rs4
      obtain rfl : f = z := rs4
      refine ⟨_, rfl, _, _, _, _, rfl, rfl, kit_lst (d := .str "any"), _, rfl, iteF (iteF ⟨_, rfl, .inl ⟨rfl, _, rfl, iteT' (decide_eq_true rfl) ?_⟩⟩)⟩
      rcases zs with rfl | ⟨n, rfl⟩
      · refine ⟨_, rfl, _, _, _, _, rfl, rfl, kit_lst (d := .none), _, rfl, iteF ?_⟩
        refine ⟨_, rfl, _, rfl, szl rfl, fun t5 ht5 => .inl ⟨t5, _, rfl, .inr (SqT.of upd_same), rfl, rfl, _, rfl, iteT' inV_s ?_⟩⟩
        exact ⟨_, rfl, _, rfl, szl rfl, fun t6 ht6 => fin t6 _ ((Grow.new ht5 _).trans (Grow.new ht6 _)) (SqT.of upd_same)⟩
      · refine ⟨_, rfl, _, _, _, _, rfl, rfl, kit_lst (d := .int n), _, rfl, iteF ?_⟩
        refine ⟨_, rfl, _, rfl, szl rfl, fun t5 ht5 => .inl ⟨t5, _, rfl, .inr (SqT.of upd_same), rfl, rfl, _, rfl, iteT' inV_s ?_⟩⟩
        exact ⟨_, rfl, _, rfl, szl rfl, fun t6 ht6 => fin t6 _ ((Grow.new ht5 _).trans (Grow.new ht6 _)) (SqT.of upd_same)⟩
  intro hr
  refine ⟨_, rfl, rfl, _, rfl, ?_⟩
  by_cases w0 : wh = 0
  · refine iteT' (decide_eq_true (congrArg V.int (by omega))) ⟨_, rfl, _, rfl, _, _, rfl, p, 2 ^ k, m, rfl, pp2, rfl, by omega, msub p (by simp), occ2, fun v d H3 bad g3 pp3 od => ⟨szl rfl, fun dd hdd => ⟨szl rfl, fun l hl => ?_⟩⟩⟩
    have e : stepD k st 0 d = (.side, st) := come_side bad
    have gd3 := Grow.new (m := []) hdd (.tup [V.int (0 : Nat), v])
    have gl := Grow.new (m := []) hl (.lst [V.bl true, V.bl false, V.bl false])
    have om3 := occ g3 pp3 occ2
    have nl : l ∉ m := fun z => grow_none gd3 om3 l z hl
    exact ⟨_, _, rfl, hr _ _ ⟨dd, 0, v, .ref l, d, rfl, by omega, g3.trans (gd3.trans gl).wk, (pp3.grow gd3).grow gl, gl.sqT (SqT.of upd_same), (od.grow gd3.wk).grow gl.wk, by rw [e]; exact .inl ⟨l, rfl, upd_same, nl, fun _ z => nomatch z⟩⟩⟩
  refine iteF' (vint_ne (by omega)) ⟨_, rfl, rfl, _, rfl, ?_⟩
  by_cases w1 : wh = 1
  · refine iteT' (decide_eq_true (congrArg V.int (by omega))) ⟨_, rfl, _, rfl, _, _, rfl, p, st.toks.length, m, rfl, pp2, rfl, gd.t, msub p (by simp), occ2, fun v d H3 bad g3 pp3 od => ⟨szl rfl, fun dd hdd => ⟨szl rfl, fun l hl => ?_⟩⟩⟩
    have e : stepD k st 1 d = (.tok, st) := go_tok bad
    have gd3 := Grow.new (m := []) hdd (.tup [V.int (1 : Nat), v])
    have gl := Grow.new (m := []) hl (.lst [V.bl false, V.bl false, V.bl true])
    have om3 := occ g3 pp3 occ2
    have nl : l ∉ m := fun z => grow_none gd3 om3 l z hl
    exact ⟨_, _, rfl, hr _ _ ⟨dd, 1, v, .ref l, d, rfl, by omega, g3.trans (gd3.trans gl).wk, (pp3.grow gd3).grow gl, gl.sqT (SqT.of upd_same), (od.grow gd3.wk).grow gl.wk, by rw [e]; exact .inl ⟨l, rfl, upd_same, nl, fun _ z => nomatch z⟩⟩⟩
  refine iteF' (vint_ne (by omega)) ?_
  refine tIfS_c88 (fun b H' => Grow [] H2 H' ∧ (b = true → os ≠ [])) (fun Kk hk => ?_) ?_
  · refine ⟨_, rfl, rfl, _, rfl, ?_⟩
    by_cases w2 : wh = 2
    · refine iteT' (decide_eq_true (congrArg V.int (by omega))) ⟨_, rfl, szl rfl, fun le hle => ⟨lo, le, _, rfl, rfl, SqL.of ((Grow.new (m := []) hle _).keep _ _ (by simp) hlo2), SqL.of upd_same, _, rfl, hk _ _ ⟨Grow.new hle _, fun z e => ?_⟩⟩⟩
      subst e
      cases z
    · exact iteF' (vint_ne (by omega)) (hk _ _ ⟨Grow.refl _ _, fun z => nomatch z⟩)
  rintro b H5 ⟨g5, hb⟩
  have pp5 := pp2.grow g5
  have hlo5 := g5.keep _ _ (by simp) hlo2
  have occ5 := grow_none g5 occ2
  cases b with
  | true =>
    have nos := hb rfl
    have lpos : 0 < os.length := List.length_pos_iff.mpr nos
    have l40 : os.length ≤ 40 := by have z1 := oo.l; have z2 := gd.g; omega
    refine iteT ⟨_, rfl, _, rfl, _, rfl, lo, _, rfl, .inl (SqL.of hlo5), _, _, rfl, p, _, rfl, rfl, pp5, by rw [natsV_len]; omega, ?_, fun n6 H6 u6 v6 g6 pp6 => ?_⟩
    · have : (1000 : Int) < 2 ^ 200 := by decide
      rw [natsV_len]; omega
    rw [natsV_len] at v6
    obtain ⟨j, rfl⟩ : ∃ j : Nat, n6 = j := ⟨n6.toNat, by omega⟩
    have hj : j < os.length := by omega
    have omz := occ g6 pp6 occ5
    have gz : Grow [p] H2 H6 := g5.wk.trans g6
    refine ⟨lo, _, j, _, rfl, rfl, SqL.of (g6.keep _ _ lop hlo5), atI_nat (natsV_get? (List.getElem?_eq_getElem hj)), szl rfl, fun dd hdd => ⟨szl rfl, fun l hl => ?_⟩⟩
    have e : stepD k st 1 (.int (os[j] : Nat)) = (.tok, st) := go_out (oo.a _ (List.getElem_mem hj))
    have gd3 := Grow.new (m := []) hdd (.tup [V.int (1 : Nat), V.int (os[j] : Nat)])
    have gl := Grow.new (m := []) hl (.lst [V.bl false, V.bl false, V.bl true])
    have nl : l ∉ m := fun z => grow_none gd3 omz l z hl
    exact ⟨_, _, rfl, hr _ _ ⟨dd, 1, V.int (os[j] : Nat), .ref l, (.int (os[j] : Nat)), rfl, by omega, gz.trans (gd3.trans gl).wk, (pp6.grow gd3).grow gl, gl.sqT (SqT.of upd_same), .int _, by rw [e]; exact .inl ⟨l, rfl, upd_same, nl, fun _ z => nomatch z⟩⟩⟩
  | false =>
    refine iteF ?_
    refine tIfS_c88 (fun b H' => H' = H5 ∧ (b = false → 0 < st.toks.length)) (fun Kk hk => ?_) ?_
    · refine ⟨_, rfl, _, _, rfl, rfl, _, rfl, ?_⟩
      by_cases w5 : (wh : Int) < 5
      · exact iteT' (decide_eq_true w5) (hk _ _ ⟨rfl, fun z => nomatch z⟩)
      · refine iteF' (decide_eq_false w5) ⟨_, rfl, rfl, _, rfl, hk _ _ ⟨rfl, fun z => ?_⟩⟩
        have := of_decide_eq_false z
        have : ¬ st.toks.length = 0 := fun e => this (congrArg V.int (by omega))
        omega
    rintro b H' ⟨rfl, hb'⟩
    have tl := gd.t
    have b200 : (1000 : Int) < 2 ^ 200 := by decide
    cases b with
    | true =>
      refine iteT ⟨_, rfl, _, rfl, _, _, rfl, p, _, rfl, rfl, pp5, by omega, by omega, fun n6 H6 u6 v6 g6 pp6 => ⟨szl rfl, fun dd hdd => ⟨_, rfl, _, _, rfl, ?_⟩⟩⟩
      obtain ⟨j, rfl⟩ : ∃ j : Nat, n6 = j := ⟨n6.toNat, by omega⟩
      have hj : j < 2 ^ k := by omega
      have omz := occ g6 pp6 occ5
      have gz : Grow [p] H2 H6 := g5.wk.trans g6
      have gd3 := Grow.new (m := []) hdd (.tup [V.int (0 : Nat), V.int j])
      have ec := come_in (st := st) hj
      refine ⟨_, rfl, rfl, _, rfl, ?_⟩
      by_cases h40 : st.toks.length = 40
      · rw [if_pos h40] at ec
        have e : stepD k st 0 (.int j) = (.many, st) := ec
        refine iteT' (decide_eq_true (congrArg V.int (by omega))) ⟨szl rfl, fun l hl => ?_⟩
        have gl := Grow.new (m := []) hl (.lst [V.bl false, V.bl true, V.bl false])
        have nl : l ∉ m := fun z => grow_none gd3 omz l z hl
        exact hr _ _ ⟨dd, 0, V.int j, .ref l, .int j, rfl, by omega, gz.trans (gd3.trans gl).wk, (pp6.grow gd3).grow gl, gl.sqT (SqT.of upd_same), .int _, by rw [e]; exact .inl ⟨l, rfl, upd_same, nl, fun _ z => nomatch z⟩⟩
      · rw [if_neg h40] at ec
        have e : (stepD k st 0 (.int j)).1 = .val (.int st.toks.length) := congrArg Prod.fst ec
        exact iteF' (vint_ne (by omega)) (hr _ _ ⟨dd, 0, V.int j, .int st.toks.length, .int j, rfl, by omega, gz.trans gd3.wk, pp6.grow gd3, SqT.of upd_same, .int _, .inr (.inl ⟨st.toks.length, rfl, e⟩)⟩)
    | false =>
      have tpos := hb' rfl
      refine iteF ⟨_, rfl, _, rfl, _, _, rfl, p, _, rfl, rfl, pp5, by omega, by omega, fun n6 H6 u6 v6 g6 pp6 => ⟨szl rfl, fun dd hdd => ⟨_, _, rfl, ?_⟩⟩⟩
      obtain ⟨j, rfl⟩ : ∃ j : Nat, n6 = j := ⟨n6.toNat, by omega⟩
      have hj : j < st.toks.length := by omega
      have omz := occ g6 pp6 occ5
      have gz : Grow [p] H2 H6 := g5.wk.trans g6
      have gd3 := Grow.new (m := []) hdd (.tup [V.int (1 : Nat), V.int j])
      have hlo7 := gd3.keep _ _ (by simp) (g6.keep _ _ lop hlo5)
      rw [natsV_I] at hlo7
      refine ⟨_, rfl, dd, _, 1, _, rfl, rfl, SqT.of upd_same, atI_nat (j := 1) rfl, _, rfl, lo, _, rfl, .inl (SqL.of hlo7), rfl, flat_ints, ?_⟩
      show ∃ k, V.bl (inV (V.int j) ((intsN os).map V.int)) = V.bl k ∧ _
      rw [inV_ints]
      by_cases hm : j ∈ os
      · have hmi : (j : Int) ∈ intsN os := List.mem_map.mpr ⟨j, hm, rfl⟩
        have e : stepD k st 1 (.int j) = (.tok, st) := go_out (oo.a j hm)
        refine ⟨_, rfl, iteT' (decide_eq_true hmi) ⟨szl rfl, fun l hl => ?_⟩⟩
        have gl := Grow.new (m := []) hl (.lst [V.bl false, V.bl false, V.bl true])
        have nl : l ∉ m := fun z => grow_none gd3 omz l z hl
        exact hr _ _ ⟨dd, 1, V.int j, .ref l, .int j, rfl, by omega, gz.trans (gd3.trans gl).wk, (pp6.grow gd3).grow gl, gl.sqT (SqT.of upd_same), .int _, by rw [e]; exact .inl ⟨l, rfl, upd_same, nl, fun _ z => nomatch z⟩⟩
      · have hmi : ¬ (j : Int) ∈ intsN os := fun z => by
          obtain ⟨t, ht, e⟩ := List.mem_map.mp z
          have e' : t = j := Int.ofNat.inj e
          exact hm (e' ▸ ht)
        obtain ⟨v, ev, vs⟩ := go_val (k := k) hj (fun z => hm (oo.b j z))
        exact ⟨_, rfl, iteF' (decide_eq_false hmi) (hr _ _ ⟨dd, 1, V.int j, .str "any", .int j, rfl, by omega, gz.trans gd3.wk, pp6.grow gd3, SqT.of upd_same, .int _, .inr (.inr ⟨rfl, v, ev, vs⟩)⟩)⟩
theorem sc__law_cell : FnScope ["_law_script", "_law_k"] ["_law_script", "_law_k"] (defScope (top 20)) := ⟨rfl, rfl, rfl, by decide +kernel, rfl, by decide +kernel, by decide +kernel⟩
set_option maxHeartbeats 0 in
theorem ok__law_cell {n : Nat} {f : Addr} {fd : FuncData} (F : Fun K "_law_cell" "_law_cell" (top 20) f fd) (B : Blt mg)     :
    FnOk P w K mg base CX0 (n + 1) f fd ["_law_script", "_law_k"] (sp_cell K) := by
  refine F.ok sc__law_cell sp2_len (fun cdv A outer s H vs Q E hr h => ?_)
  obtain ⟨x, y, rfl, a, ns, k, rfl, rfl, hs, k0, q⟩ := h
  refine ⟨_, (pss_cons (ps_if (pt_cmpR op_lt (pv 1) (pe_callB call_len_seq rfl B.len b_len (pa_cons (pv 0) pa_nil)) (nomark _)) (pss_one (ps_ret (pe_ix ix_list (pv 0) (pv 1) (fun _ _ => rfl)))) pss_nil) (pss_one (ps_ret pe_int))), ?_⟩
  have hs2 := hs.sq
  have hl : (ns.map V.int).length = ns.length := List.length_map ..
  refine ⟨_, rfl, _, rfl, a, _, rfl, .inl hs2, _, _, rfl, rfl, _, rfl, ?_⟩
  by_cases c : k < ((ns.map V.int).length : Int)
  · refine iteT' (decide_eq_true c) ?_
    have hj : k.toNat < ns.length := by omega
    exact ⟨_, rfl, _, rfl, a, _, _, V.int ns[k.toNat], rfl, rfl, hs2, ixGet (ixN_nat k0 (by omega)) (by rw [List.getElem?_map, List.getElem?_eq_getElem hj]; rfl), q _⟩
  · exact iteF' (decide_eq_false c) (q 0)
theorem sc__law_pot : FnScope ["_law_script", "_law_k", "_law_cell_here", "_law_mixed"] ["_law_script", "_law_k"] (defScope (top 21)) := ⟨rfl, rfl, rfl, by decide +kernel, rfl, by decide +kernel, by decide +kernel⟩
set_option maxHeartbeats 0 in
theorem ok__law_pot {n : Nat} {f : Addr} {fd : FuncData} (F : Fun K "_law_pot" "_law_pot" (top 21) f fd) (B : Blt mg) (c__law_cell : Callee P w K mg base n "_law_cell" ["_law_script", "_law_k"] (sp_cell K))    :
    FnOk P w K mg base CX0 (n + 1) f fd ["_law_script", "_law_k"] (sp_pot K) := by
  refine F.ok sc__law_pot sp2_len (fun cdv A outer s H vs Q E hr h => ?_)
  obtain ⟨x, y, rfl, a, ns, k, rfl, rfl, hs, k0, k1, q⟩ := h
  refine ⟨_, (pss_cons (ps_set (i := 2) sc__law_pot.nd rfl (Or.inl rfl) (pe_callC c__law_cell hr rfl (pa_cons (pv 0) (pa_cons (pv 1) pa_nil)))) (pss_cons (ps_set (i := 3) sc__law_pot.nd rfl (Or.inl rfl) (pe_op op_mod (pe_op op_mulG (pe_op op_add (pe_op op_mod (pv 2) pe_int) pe_int) pe_int) pe_int)) (pss_one (ps_ret (pe_lst (pa_cons (pe_callB (call_max2 rfl) rfl B.max b_max (pa_cons pe_int (pa_cons (pe_op op_sub (pv 2) (pe_op op_pow pe_int pe_int)) pa_nil))) (pa_cons (pe_op op_add (pe_op op_mod (pe_op op_add (pe_op op_mulG (pv 3) (pv 3)) (pe_op op_mulG pe_int (pv 1))) pe_int) pe_int) pa_nil))))))), ?_⟩
  refine ⟨_, rfl, _, rfl, _, _, rfl, a, ns, k, rfl, rfl, hs, k0, fun cell => ?_⟩
  refine ⟨_, rfl, _, _, rfl, rfl, (by show (0 : Int) < 2147483629; decide), _, _, rfl, rfl, _, _, rfl, rfl, mulOkR ⟨by decide, by decide⟩, _, _, rfl, rfl, (by show (0 : Int) < 2147483647; decide), ?_⟩
  have b0 : 0 ≤ (cell % 2147483629 + 1) * 48271 % 2147483647 := Int.emod_nonneg _ (by decide)
  have b1 : (cell % 2147483629 + 1) * 48271 % 2147483647 < 2147483647 := Int.emod_lt_of_pos _ (by decide)
  generalize (cell % 2147483629 + 1) * 48271 % 2147483647 = mixed at b0 b1 ⊢
  refine ⟨_, rfl, _, _, rfl, rfl, ⟨by decide, by decide, by decide⟩, _, _, rfl, rfl, _, _, rfl, _, rfl, _, rfl, _, _, rfl, rfl, mulOkR ⟨by omega, by omega⟩, _, rfl, _, _, rfl, rfl, mulOkL ⟨by decide, by decide⟩, _, _, rfl, rfl, _, _, rfl, rfl, (by show (0 : Int) < 2147483629; decide), _, _, rfl, rfl, szl rfl, fun p hp => q p _ hp (Grow.new hp _) ⟨_, _, upd_same, ?_⟩⟩
  show 0 ≤ (if (cell - 10 ^ (18 : Int).toNat) > 0 then _ else _)
  split <;> omega
theorem sc_merge_lines : FnScope ["one", "other", "found", "first", "second", "row", "pair"] ["one", "other", "found"] (defScope (top 13)) := ⟨rfl, rfl, rfl, by decide +kernel, rfl, by decide +kernel, by decide +kernel⟩
set_option maxHeartbeats 0 in
theorem ok_merge_lines {n : Nat} {f : Addr} {fd : FuncData} (F : Fun K "merge_lines" "merge_lines" (top 13) f fd) (B : Blt mg) {N : Nat} (c_merge_lines : Callee P w K mg base n "merge_lines" ["one", "other", "found"] (sp_merge N K)) (g_zip : mg "zip" = none)   :
    FnOk P w K mg base CX0 (n + 1) f fd ["one", "other", "found"] (sp_merge (N + 1) K) := by
  refine F.ok sc_merge_lines sp3_len (fun cdv A outer s H vs Q E hr h => ?_)
  obtain ⟨x, y, z, rfl, l1, l2, f, one, other, rows, n, rfl, rfl, rfl, hn, h1, h2, hf, e1, e2, n3, hb, d1, d2, q⟩ := h
  refine ⟨_, (pss_cons (ps_if (pt_cmpR op_eq (pe_callB call_len_seq rfl B.len b_len (pa_cons (pv 0) pa_nil)) pe_int (nomark _)) (pss_cons (ps_expr (pe_bm PySem.F.plainAttrs_list PySem.F.slot_list_append PySem.F.type_list_append mt_append (pv 2) (pa_cons (pe_tup (pa_cons (pe_ix ix_list (pv 0) pe_int (fun _ _ => rfl)) (pa_cons (pe_ix ix_list (pv 1) pe_int (fun _ _ => rfl)) pa_nil))) pa_nil))) (pss_one (ps_ret (pe_op op_cat (pv 0) (pv 1))))) pss_nil) (pss_cons (ps_set (i := 3) sc_merge_lines.nd rfl (Or.inl rfl) (pe_callC c_merge_lines hr rfl (pa_cons (pe_ev0 (K := K) rfl (pv 0)) (pa_cons (pe_ev1 (K := K) rfl (pv 1)) (pa_cons (pv 2) pa_nil))))) (pss_cons (ps_set (i := 4) sc_merge_lines.nd rfl (Or.inl rfl) (pe_callC c_merge_lines hr rfl (pa_cons (pe_ev1 (K := K) rfl (pv 0)) (pa_cons (pe_ev0 (K := K) rfl (pv 1)) (pa_cons (pv 2) pa_nil))))) (pss_cons (ps_set (i := 5) sc_merge_lines.nd rfl (Or.inl rfl) (pe_lst pa_nil)) (pss_cons (ps_for PassesOwn.never rfl (pi_zipN (K := K) rfl rfl g_zip (pa_cons (pv 3) (pa_cons (pv 4) pa_nil))) (pg_name (i := 6) sc_merge_lines.nd rfl (Or.inl rfl)) (pss_cons (ps_expr (pe_bm PySem.F.plainAttrs_list PySem.F.slot_list_append PySem.F.type_list_append mt_append (pv 2) (pa_cons (pv 6) pa_nil))) (pss_one (ps_expr (pe_bm PySem.F.plainAttrs_list PySem.F.slot_list_extend PySem.F.type_list_extend (mt_extendT (K := K) rfl) (pv 5) (pa_cons (pv 6) pa_nil)))))) (pss_one (ps_ret (pv 5)))))))), ?_⟩
  obtain ⟨xs, hfx, hall⟩ := hf
  have hxl := hall.len
  refine ⟨_, rfl, l1, _, rfl, .inl (SqL.of h1), rfl, _, rfl, ?_⟩
  rw [natsV_len, e1]
  cases n with
  | zero =>
    obtain ⟨a, rfl⟩ : ∃ a, one = [a] := by
      match one, e1 with
      | [a], _ => exact ⟨a, rfl⟩
    obtain ⟨b, rfl⟩ : ∃ b, other = [b] := by
      match other, e2 with
      | [b], _ => exact ⟨b, rfl⟩
    refine iteT' (decide_eq_true rfl) ?_
    refine ⟨_, rfl, .inl ⟨rfl, _, SqL.of hfx⟩, _, rfl, l1, _, _, _, rfl, rfl, SqL.of h1, rfl, _, rfl, l2, _, _, _, rfl, rfl, SqL.of h2, rfl, szl rfl, fun t ht => ?_⟩
    have gt := Grow.new (m := [f]) ht (.tup [V.int (a : Int), V.int (b : Int)])
    have hft : upd H t (.tup [V.int (a : Int), V.int (b : Int)]) f = some (.lst xs) := by rw [upd_ne (ne_of_none hfx ht)]; exact hfx
    refine ⟨f, _, _, rfl, rfl, hft, small1000 (by omega), ?_⟩
    have g2 := gt.trans (Grow.set hft (by simp) (xs ++ [.ref t]))
    have k1 := g2.keep _ _ (by simpa using d1) h1
    have k2 := g2.keep _ _ (by simpa using d2) h2
    have hall2 : AllR (BoardAt K (upd (upd H t (.tup [V.int (a : Int), V.int (b : Int)])) f (.lst (xs ++ [.ref t])))) (xs ++ [.ref t]) (rows ++ [[(a : Int), (b : Int)]]) := by
      exact (g2.boardsR hall).app (.one ⟨t, rfl, (Grow.set (m := [f]) hft (by simp) _).sqT (SqT.of upd_same)⟩)
    refine ⟨_, rfl, _, rfl, l1, l2, _, _, rfl, rfl, k1, k2, szl rfl, fun p hp => ?_⟩
    have g3 := Grow.new (m := []) hp (.lst (natsV [a] ++ natsV [b]))
    refine q p _ (g2.trans g3.wk) (g2.free ?_ hp) (by rw [upd_same]; rfl) ⟨_, g3.keep _ _ (by simp) upd_same, g3.boardsR hall2⟩
    intro z
    cases (List.mem_singleton.mp z)
    rw [upd_same] at hp; cases hp
  | succ n =>
    have hpw : 2 ^ (n + 1) = 2 * 2 ^ n := by rw [Nat.pow_succ]; omega
    have hp0 := Nat.two_pow_pos n
    have h4 : 4 ^ (n + 1) = 4 * 4 ^ n := by rw [Nat.pow_succ]; omega
    have hp4 : 2 ^ n ≤ 4 ^ n := Nat.pow_le_pow_left (by decide) n
    refine iteF' (decide_eq_false fun z => by have := V.int.inj z; omega) ?_
    have rin : RowsIn K H f rows := ⟨xs, hfx, hall⟩
    refine ⟨_, rfl, l1, _, rfl, SqL.of h1, fun p1 hp1 => ?_⟩
    have gp1 := Grow.new (m := []) hp1 (.lst (pickV (evIx 0 (natsV one).length) (natsV one)))
    refine ⟨_, rfl, l2, _, rfl, SqL.of (gp1.keep _ _ (by simp) h2), fun p2 hp2 => ?_⟩
    have gp2 := Grow.new (m := []) hp2 (.lst (pickV (evIx 1 (natsV other).length) (natsV other)))
    have gp12 := gp1.trans gp2
    refine ⟨_, rfl, _, _, _, rfl, p1, p2, f, evL 0 one, evL 1 other, rows, n, rfl, rfl, rfl, by omega, gp2.keep _ _ (by simp) (by rw [upd_same, evL_natsV]), by rw [upd_same, evL_natsV], rin.grow gp12, evL_len (by decide) e1, evL_len (by decide) e2, by omega, by omega, rin.ne hp1, (rin.grow gp1).ne hp2, fun r1 H1 g1 n1 hr1 rin1 => ?_⟩
    have A := mrg_len n _ _ (evL_len (c := 0) (by decide) e1) (evL_len (c := 1) (by decide) e2)
    have B := mrg_len n _ _ (evL_len (c := 1) (by decide) e1) (evL_len (c := 0) (by decide) e2)
    have G1 : Grow [f] H H1 := gp12.wk.trans g1
    have r1f : r1 ≠ f := (rin.grow gp12).ne n1
    have h1' := G1.keep _ _ (by simpa using d1) h1
    have h2' := G1.keep _ _ (by simpa using d2) h2
    refine ⟨_, rfl, l1, _, rfl, SqL.of h1', fun p3 hp3 => ?_⟩
    have gp3 := Grow.new (m := []) hp3 (.lst (pickV (evIx 1 (natsV one).length) (natsV one)))
    refine ⟨_, rfl, l2, _, rfl, SqL.of (gp3.keep _ _ (by simp) h2'), fun p4 hp4' => ?_⟩
    have gp4 := Grow.new (m := []) hp4' (.lst (pickV (evIx 0 (natsV other).length) (natsV other)))
    have gp34 := gp3.trans gp4
    refine ⟨_, rfl, _, _, _, rfl, p3, p4, f, evL 1 one, evL 0 other, _, n, rfl, rfl, rfl, by omega, gp4.keep _ _ (by simp) (by rw [upd_same, evL_natsV]), by rw [upd_same, evL_natsV], rin1.grow gp34, evL_len (by decide) e1, evL_len (by decide) e2, by omega, by rw [List.length_append]; omega, rin1.ne hp3, (rin1.grow gp3).ne hp4', fun r2 H2 g2 n2 hr2 rin2 => ?_⟩
    have G2 : Grow [f] H1 H2 := gp34.wk.trans g2
    have hr1' := G2.keep _ _ (by simpa using r1f) hr1
    have r2f : r2 ≠ f := (rin1.grow gp34).ne n2
    revert A B hr1' hr2 rin2
    have eT : (mrg (n + 1) one other).1 = (mrg n (evL 0 one) (evL 1 other)).1 ++ (mrg n (evL 1 one) (evL 0 other)).1 ++ zipR (mrg n (evL 0 one) (evL 1 other)).2 (mrg n (evL 1 one) (evL 0 other)).2 := rfl
    have eR : (mrg (n + 1) one other).2 = flatR (mrg n (evL 0 one) (evL 1 other)).2 (mrg n (evL 1 one) (evL 0 other)).2 := rfl
    rw [eT, eR] at q
    generalize mrg n (evL 0 one) (evL 1 other) = MA at q ⊢
    generalize mrg n (evL 1 one) (evL 0 other) = MB at q ⊢
    intro A B hr2 rin2 hr1'
    refine ⟨szl rfl, fun l3 hl3 => ?_⟩
    have gl3 := Grow.new (m := []) hl3 (.lst [])
    have l3f : l3 ≠ f := rin2.ne hl3
    have hr1'' := gl3.keep _ _ (by simp) hr1'
    have hr2'' := gl3.keep _ _ (by simp) hr2
    have l31 : r1 ≠ l3 := fun z => by rw [z, hl3] at hr1'; cases hr1'
    have l32 : r2 ≠ l3 := fun z => by rw [z, hl3] at hr2; cases hr2
    have rin3 := rin2.grow gl3
    have h30 : upd H2 l3 (.lst []) l3 = some (.lst []) := upd_same
    generalize hH3 : upd H2 l3 (.lst []) = H3 at gl3 hr1'' hr2'' rin3 h30
    refine ⟨_, rfl, _, rfl, false, false, r1, r2, rfl, ⟨_, SqL.of hr1''⟩, ⟨_, SqL.of hr2''⟩, for_zip (xs := natsV MA.2) (ys := natsV MB.2) (fun i σ H' => ∃ e6 : Option V, σ = [some (.ref l1), some (.ref l2), some (.ref f), some (.ref r1), some (.ref r2), some (.ref l3), e6] ∧ Grow [f, l3] H3 H' ∧ H' l3 = some (.lst (natsV (flatR (MA.2.take i) (MB.2.take i)))) ∧ RowsIn K H' f (rows ++ MA.1 ++ MB.1 ++ zipR (MA.2.take i) (MB.2.take i))) ⟨_, rfl, Grow.refl _ _, h30, by rw [List.take_zero]; simpa [zipR] using rin3⟩ (fun i σ H' ⟨_, _, g, _, _⟩ => ⟨SqL.of (g.keep _ _ (by simp [r1f, l31]) hr1''), SqL.of (g.keep _ _ (by simp [r2f, l32]) hr2'')⟩) ?_ ?_⟩
    · rintro i x y σ H4 T hx hy ⟨e6, rfl, g4, hl4, ⟨zs, hf4, ha4⟩⟩ hT
      obtain ⟨gx, hgx, rfl⟩ := natsV_ix hx
      obtain ⟨gy, hgy, rfl⟩ := natsV_ix hy
      obtain ⟨ez, ef⟩ := zip_take hgx hgy
      have hix := (List.getElem?_eq_some_iff.mp hgx).1
      have hiy := (List.getElem?_eq_some_iff.mp hgy).1
      have gT := Grow.new (m := []) hT (.tup [V.int (gx : Int), V.int (gy : Int)])
      have hf5 := gT.keep _ _ (by simp) hf4
      have hl5 := gT.keep _ _ (by simp) hl4
      have hzl := ha4.len
      have hzs : zs.length ≤ 900 := by
        rw [hzl, List.length_append, List.length_append, List.length_append]
        unfold zipR
        rw [List.length_map, List.length_zip, List.length_take, List.length_take]
        omega
      refine ⟨_, rfl, .inl ⟨rfl, _, SqL.of hf5⟩, _, rfl, f, _, _, rfl, rfl, hf5, small1000 (by omega), ?_⟩
      have gS := Grow.set (m := [f, l3]) hf5 (by simp) (zs ++ [.ref T])
      have hl6 : upd (upd H4 T (.tup [V.int (gx : Int), V.int (gy : Int)])) f (.lst (zs ++ [.ref T])) l3 = some (.lst (natsV (flatR (MA.2.take i) (MB.2.take i)))) := by rw [upd_ne l3f]; exact hl5
      refine ⟨_, rfl, .inl ⟨rfl, _, SqL.of hl6⟩, _, rfl, l3, T, _, _, rfl, rfl, hl6, gS.sqT (SqT.of upd_same), ?_, ?_⟩
      · rw [natsV_len, flat_len (by rw [List.length_take, List.length_take]; omega), List.length_take]
        exact Nat.le_of_lt (small1000 (by show 2 * min i MA.2.length + 2 ≤ 1000; omega))
      · have gX := Grow.set (m := [f, l3]) hl6 (by simp) (natsV (flatR (MA.2.take i) (MB.2.take i)) ++ [V.int (gx : Int), V.int (gy : Int)])
        have gAll := gT.wk.trans (gS.trans gX)
        refine ⟨_, rfl, g4.trans gAll, ?_, ⟨zs ++ [.ref T], ?_, ?_⟩⟩
        · rw [upd_same, ef, natsV_app]; rfl
        · rw [upd_ne l3f.symm, upd_same]
        · rw [ez, ← List.append_assoc]
          exact (gAll.boardsR ha4).app (.one ⟨T, rfl, (gS.trans gX).sqT (SqT.of upd_same)⟩)
    · rintro σ H4 ⟨e6, rfl, g4, hl4, rin4⟩
      have hA : MA.2.length = 2 ^ (n + 1) := A.1
      have hB : MB.2.length = 2 ^ (n + 1) := B.1
      rw [natsV_len, natsV_len, hA, hB, Nat.min_self, List.take_of_length_le (by omega), List.take_of_length_le (by omega)] at hl4 rin4
      have l3n : H l3 = none := G1.free (by simpa using l3f) (G2.free (by simpa using l3f) hl3)
      refine ⟨_, rfl, q l3 H4 ?_ l3n hl4 (by simpa only [List.append_assoc] using rin4)⟩
      refine G1.trans (G2.trans ?_)
      have z : Grow [f, l3] H2 H4 := gl3.wk.trans g4
      exact z.shrink2 hl3
theorem sc_count_lines : FnScope ["lines", "found", "half", "first", "second"] ["lines", "found"] (defScope (top 14)) := ⟨rfl, rfl, rfl, by decide +kernel, rfl, by decide +kernel, by decide +kernel⟩
set_option maxHeartbeats 0 in
theorem ok_count_lines {n : Nat} {f : Addr} {fd : FuncData} (F : Fun K "count_lines" "count_lines" (top 14) f fd) (B : Blt mg) {N : Nat} (c_merge_lines : Callee P w K mg base n "merge_lines" ["one", "other", "found"] (sp_merge 4 K)) (c_count_lines : Callee P w K mg base n "count_lines" ["lines", "found"] (sp_cntl N K))    :
    FnOk P w K mg base CX0 (n + 1) f fd ["lines", "found"] (sp_cntl (N + 1) K) := by
  refine F.ok sc_count_lines sp2_len (fun cdv A outer s H vs Q E hr h => ?_)
  obtain ⟨x, z, rfl, l, f, ls, rows, n, rfl, rfl, hn, h1, rin, e1, n3, hb, d1, q⟩ := h
  refine ⟨_, (pss_cons (ps_if (pt_cmpR op_eq (pe_callB call_len_seq rfl B.len b_len (pa_cons (pv 0) pa_nil)) pe_int (nomark _)) (pss_one (ps_ret (pv 0))) pss_nil) (pss_cons (ps_set (i := 2) sc_count_lines.nd rfl (Or.inl rfl) (pe_op op_fdivL (pe_callB call_len_seq rfl B.len b_len (pa_cons (pv 0) pa_nil)) pe_int)) (pss_cons (ps_set (i := 3) sc_count_lines.nd rfl (Or.inl rfl) (pe_callC c_count_lines hr rfl (pa_cons (pe_slice sl_list (pv 0) po_none (po_some (pv 2))) (pa_cons (pv 1) pa_nil)))) (pss_cons (ps_set (i := 4) sc_count_lines.nd rfl (Or.inl rfl) (pe_callC c_count_lines hr rfl (pa_cons (pe_slice sl_list (pv 0) (po_some (pv 2)) po_none) (pa_cons (pv 1) pa_nil)))) (pss_one (ps_ret (pe_callC c_merge_lines hr rfl (pa_cons (pv 3) (pa_cons (pv 4) (pa_cons (pv 1) pa_nil)))))))))), ?_⟩
  refine ⟨_, rfl, l, _, rfl, .inl (SqL.of h1), rfl, _, rfl, ?_⟩
  rw [natsV_len, e1]
  cases n with
  | zero =>
    refine iteT' (decide_eq_true rfl) ⟨_, rfl, ?_⟩
    exact q l H (Grow.refl _ _) d1 h1 (by show RowsIn K H f (rows ++ []); rw [List.append_nil]; exact rin)
  | succ n =>
    have hpw : 2 ^ (n + 1) = 2 * 2 ^ n := by rw [Nat.pow_succ]; omega
    have hp0 := Nat.two_pow_pos n
    have h4 : 4 ^ (n + 1) = 4 * 4 ^ n := by rw [Nat.pow_succ]; omega
    refine iteF' (decide_eq_false fun z => by have := V.int.inj z; omega) ?_
    refine ⟨_, rfl, l, _, rfl, .inl (SqL.of h1), _, _, rfl, rfl, ⟨by decide, by decide⟩, ?_⟩
    have eh : ((natsV ls).length : Int) / 2 = ((2 ^ n : Nat) : Int) := by rw [natsV_len, e1]; omega
    have c1 : cutV (natsV ls) none (some (((natsV ls).length : Int) / 2)) = natsV (ls.take (2 ^ n)) := by
      unfold cutV natsV
      rw [show ((((ls.map fun g : Nat => V.int g)).length : Int) / 2) = ((2 ^ n : Nat) : Int) from eh, HT.sIx_none, HT.sIx_nat, Nat.sub_zero, List.drop_zero, ← List.map_take, List.length_map, e1, Nat.min_eq_left (by omega)]
    have c2 : cutV (natsV ls) (some (((natsV ls).length : Int) / 2)) none = natsV (ls.drop (2 ^ n)) := by
      unfold cutV natsV
      rw [show ((((ls.map fun g : Nat => V.int g)).length : Int) / 2) = ((2 ^ n : Nat) : Int) from eh, HT.sIx_none, HT.sIx_nat, ← List.map_drop, ← List.map_take, List.length_map, e1, Nat.min_eq_left (by omega), List.take_of_length_le (by rw [List.length_drop]; omega)]
    refine ⟨_, rfl, _, rfl, _, rfl, l, _, rfl, SqL.of h1, fun p1 hp1 => ?_⟩
    have gp1 := Grow.new (m := []) hp1 (.lst (cutV (natsV ls) none (some (((natsV ls).length : Int) / 2))))
    refine ⟨_, rfl, _, _, rfl, p1, f, ls.take (2 ^ n), rows, n, rfl, rfl, by omega, by rw [upd_same, c1], rin.grow gp1, by rw [List.length_take]; omega, by omega, by omega, rin.ne hp1, fun r1 H1 g1 n1 hr1 rin1 => ?_⟩
    have A := cnt_len n (ls.take (2 ^ n)) (by rw [List.length_take]; omega)
    have B := cnt_len n (ls.drop (2 ^ n)) (by rw [List.length_drop]; omega)
    have G1 : Grow [f] H H1 := gp1.wk.trans g1
    have h1' := G1.keep _ _ (by simpa using d1) h1
    refine ⟨_, rfl, _, rfl, _, rfl, l, _, rfl, SqL.of h1', fun p2 hp2 => ?_⟩
    have gp2 := Grow.new (m := []) hp2 (.lst (cutV (natsV ls) (some (((natsV ls).length : Int) / 2)) none))
    refine ⟨_, rfl, _, _, rfl, p2, f, ls.drop (2 ^ n), _, n, rfl, rfl, by omega, by rw [upd_same, c2], rin1.grow gp2, by rw [List.length_drop]; omega, by omega, by rw [List.length_append]; omega, rin1.ne hp2, fun r2 H2 g2 n2 hr2 rin2 => ?_⟩
    have G2 : Grow [f] H1 H2 := gp2.wk.trans g2
    have hr1' := G2.keep _ _ (by simpa using n1) hr1
    refine ⟨_, rfl, _, rfl, _, rfl, _, _, _, rfl, r1, r2, f, _, _, _, n, rfl, rfl, rfl, by omega, hr1', hr2, rin2, A.1, B.1, by omega, by rw [List.length_append, List.length_append]; omega, n1, n2, fun r3 H3 g3 n3' hr3 rin3 => ?_⟩
    refine q r3 H3 (G1.trans (G2.trans g3)) (rin2.ne n3') hr3 ?_
    show RowsIn K H3 f (rows ++ ((cntN n (ls.take (2 ^ n))).1 ++ (cntN n (ls.drop (2 ^ n))).1 ++ (mrg n (cntN n (ls.take (2 ^ n))).2 (cntN n (ls.drop (2 ^ n))).2).1))
    rw [← List.append_assoc, ← List.append_assoc]; exact rin3
theorem sc_counting_net : FnScope ["k", "found", "row"] ["k"] (defScope (top 15)) := ⟨rfl, rfl, rfl, by decide +kernel, rfl, by decide +kernel, by decide +kernel⟩
set_option maxHeartbeats 0 in
theorem ok_counting_net {n : Nat} {f : Addr} {fd : FuncData} (F : Fun K "counting_net" "counting_net" (top 15) f fd) (B : Blt mg) (c_count_lines : Callee P w K mg base n "count_lines" ["lines", "found"] (sp_cntl 4 K)) (c_is_within : Callee P w K mg base n "is_within" ["thing", "least", "greatest"] (sp_withinO K))  {t_DEEPEST_COUNTING : Tok} (g_DEEPEST_COUNTING : mg "DEEPEST_COUNTING" = some (.int 3 t_DEEPEST_COUNTING))  :
    FnOk P w K mg base CX0 (n + 1) f fd ["k"] (sp_cnet87 K) := by
  refine F.ok sc_counting_net sp1_len (fun cdv A outer s H vs Q E hr h => ?_)
  obtain ⟨x, rfl, k, rfl, k3, q⟩ := h
  refine ⟨_, (pss_cons (ps_if (pt_not (pt_val (pe_callC c_is_within hr rfl (pa_cons (pv 0) (pa_cons pe_int (pa_cons (pe_glob rfl g_DEEPEST_COUNTING (show RelV (.int 3) (.int 3 t_DEEPEST_COUNTING) from ⟨_, rfl⟩)) pa_nil)))))) (pss_one ps_never) pss_nil) (pss_cons (ps_set (i := 1) sc_counting_net.nd rfl (Or.inl rfl) (pe_lst pa_nil)) (pss_cons (ps_set (i := 2) sc_counting_net.nd rfl (Or.inl rfl) (pe_callC c_count_lines hr rfl (pa_cons (pe_listRange rfl rfl B.list rfl B.range (pa_cons (pe_op op_shl pe_int (pv 0)) pa_nil)) (pa_cons (pv 1) pa_nil)))) (pss_one (ps_ret (pe_tup (pa_cons (pe_callTy call_tuple_of rfl B.tuple b_tuple (pa_cons (pv 1) pa_nil)) (pa_cons (pe_callTy call_tupleF rfl B.tuple b_tuple (pa_cons (pv 2) pa_nil)) pa_nil)))))))), ?_⟩
  have k4 : k ≤ 4 := by omega
  have hW := pow16 k4
  have W0 := Nat.two_pow_pos k
  have F := tog_facts ⟨k, by omega⟩
  refine ⟨_, rfl, _, _, _, rfl, .int k, [], 0, 3, .int _, rfl, rfl, _, rfl, iteF' (by show (!(decide ((0 : Int) ≤ k) && decide ((k : Int) ≤ 3))) = false; rw [decide_eq_true (show (0 : Int) ≤ k by omega), decide_eq_true (show (k : Int) ≤ 3 by omega)]; rfl) ?_⟩
  refine ⟨szl rfl, fun f hf => ?_⟩
  have gf := Grow.new (m := []) hf (.lst [])
  refine ⟨_, rfl, _, _, rfl, rfl, shlOne k4, 2 ^ k, congrArg (fun z => [V.int z]) one_shl, by omega, fun l hl => ?_⟩
  have gl := Grow.new (m := []) hl (.lst ((List.range (2 ^ k)).map fun i : Nat => V.int i))
  have rin : RowsIn K (upd H f (.lst [])) f [] := ⟨[], upd_same, trivial⟩
  refine ⟨_, rfl, _, _, rfl, l, f, List.range (2 ^ k), [], k, rfl, rfl, by omega, upd_same, rin.grow gl, List.length_range, k3, ?_, rin.ne hl, fun r H1 g1 n1 hr1 rin1 => ?_⟩
  · have : (4 : Nat) ^ k ≤ 4 ^ 3 := Nat.pow_le_pow_right (by decide) k3
    show 0 + 4 ^ k ≤ 900
    omega
  have eF : cntN k (List.range (2 ^ k)) = cntB k 0 := F.1.1.1
  rw [eF] at hr1 rin1
  obtain ⟨xs, hx, ha⟩ := rin1
  rw [List.nil_append] at ha
  refine ⟨_, rfl, f, xs, rfl, .inl ⟨SqL.of hx, fun t1 ht1 => ?_⟩⟩
  have gt1 := Grow.new (m := []) ht1 (.tup xs)
  refine ⟨_, rfl, r, _, rfl, SqL.of (gt1.keep _ _ (by simp) hr1), fun t2 o2 ht2 oc od => ⟨szl rfl, fun t3 ht3 => ?_⟩⟩
  have gt2 := Grow.new (m := []) ht2 (.frz o2 (.tup (natsV (cntB k 0).2)))
  have gt3 := Grow.new (m := []) ht3 (.tup [V.ref t1, V.ref t2])
  have fn : H f = none := hf
  have G : Grow [] H H1 := (gf.wk.trans (gl.wk.trans g1)).shrink fn
  refine q t3 (.ref t1) (.ref t2) _ (G.trans (gt1.trans (gt2.trans gt3))) (SqT.of upd_same) ⟨t1, xs, rfl, (gt2.trans gt3).sqT (SqT.of upd_same), (gt1.trans (gt2.trans gt3)).boardsR ha⟩ ⟨t2, rfl, gt3.frT ⟨o2, upd_same, oc, od⟩⟩
theorem sc_Counter___init__ : FnScope ["self", "k", "gates", "row"] ["self", "k"] (defScope (inClass (top 18) 0)) := ⟨rfl, rfl, rfl, by decide +kernel, rfl, by decide +kernel, by decide +kernel⟩
set_option maxHeartbeats 0 in
theorem ok_Counter___init__ {n : Nat} {f : Addr} {fd : FuncData} (F : Fun K "__init__" "Counter.__init__" (inClass (top 18) 0) f fd) (B : Blt mg) {C : Addr} (T : CTxt K mg C) (c_counting_net : Callee P w K mg base n "counting_net" ["k"] (sp_cnet87 K))    :
    FnOk P w K mg base CX0 (n + 1) f fd ["self", "k"] (sp_init87 C K) := by
  refine F.ok sc_Counter___init__ sp2_len (fun cdv A outer s H vs Q E hr h => ?_)
  obtain ⟨x, y, rfl, p, dx, k, rfl, rfl, k3, hp, q⟩ := h
  refine ⟨_, (pss_cons (ps_asg (pe_callC c_counting_net hr rfl (pa_cons (pv 1) pa_nil)) (pg_tup rfl (pgs_cons (pg_name (i := 2) sc_Counter___init__.nd rfl (Or.inl rfl)) (pgs_cons (pg_name (i := 3) sc_Counter___init__.nd rfl (Or.inl rfl)) pgs_nil)))) (pss_cons (ps_fld (pv 0) (pv 1) rfl) (pss_cons (ps_fld (pv 0) (pv 2) rfl) (pss_cons (ps_fld (pv 0) (pv 3) rfl) (pss_cons (ps_fld (pv 0) (pe_op op_rep (pe_lst (pa_cons pe_bl pa_nil)) (pe_callB call_len_seq rfl B.len b_len (pa_cons (pv 2) pa_nil))) rfl) (pss_cons (ps_fld (pv 0) (pe_lst pa_nil) rfl) (pss_cons (ps_fld (pv 0) (pe_op op_rep (pe_lst (pa_cons pe_int pa_nil)) (pe_callB call_len_seq rfl B.len b_len (pa_cons (pv 3) pa_nil))) rfl) (pss_one (ps_fld (pv 0) (pe_lst pa_nil) rfl))))))))), ?_⟩
  have R3 := rowF k3
  have p8 := pow8 k3
  have lR := (lineF' k3 (Nat.two_pow_pos k)).1
  refine ⟨_, rfl, _, rfl, k, rfl, k3, fun t a b H1 g1 ht ha hb => ⟨t, _, rfl, ht, rfl, _, _, rfl, _, _, rfl, rfl, ?_⟩⟩
  obtain ⟨ra, xa, rfl, hsa, haa⟩ := ha
  obtain ⟨rb, rfl, hsb⟩ := hb
  have hsb' : SqT K H1 rb (natsV (lineR k)) := hsb.sqT
  have lxa : xa.length = (rowsT k).length := haa.len
  have h1 := g1.keep _ _ (by simp) hp
  have G1 : Grow [p] H H1 := g1.wk
  refine ⟨_, rfl, _, rfl, p, C, dx, [], rfl, h1, T.cl, T.n1, (by show 0 < 1000; decide), ?_⟩
  have G2 := G1.trans (Grow.setI h1 (by simp) (.ins C dx (putF "depth" (.int k) [])))
  have h2 : upd H1 p (.ins C dx (putF "depth" (.int k) [])) p = some (.ins C dx (putF "depth" (.int k) [])) := upd_same
  have L2 := putF_len (f := "depth") (v := .int k) []
  refine ⟨_, rfl, _, rfl, p, C, dx, _, rfl, h2, T.cl, T.n2, Nat.lt_of_le_of_lt L2 (by decide), ?_⟩
  have G3 := G2.trans (Grow.setI h2 (by simp) (.ins C dx (putF "gates" (.ref ra) (putF "depth" (.int k) []))))
  have h3 : upd (upd H1 p (.ins C dx (putF "depth" (.int k) []))) p (.ins C dx (putF "gates" (.ref ra) (putF "depth" (.int k) []))) p = some (.ins C dx (putF "gates" (.ref ra) (putF "depth" (.int k) []))) := upd_same
  have L3 := Nat.le_trans (putF_len (f := "gates") (v := .ref ra) _) (Nat.succ_le_succ L2)
  refine ⟨_, rfl, _, rfl, p, C, dx, _, rfl, h3, T.cl, T.n3, Nat.lt_of_le_of_lt L3 (by decide), ?_⟩
  have gg : Grow [p] H1 (upd (upd (upd H1 p (.ins C dx (putF "depth" (.int k) []))) p (.ins C dx (putF "gates" (.ref ra) (putF "depth" (.int k) [])))) p (.ins C dx (putF "out_lines" (.ref rb) (putF "gates" (.ref ra) (putF "depth" (.int k) []))))) := (Grow.setI h1 (by simp) _).trans ((Grow.setI h2 (by simp) _).trans (Grow.setI h3 (by simp) _))
  have L4 := Nat.le_trans (putF_len (f := "out_lines") (v := .ref rb) _) (Nat.succ_le_succ L3)
  have h4 : upd (upd (upd H1 p (.ins C dx (putF "depth" (.int k) []))) p (.ins C dx (putF "gates" (.ref ra) (putF "depth" (.int k) [])))) p (.ins C dx (putF "out_lines" (.ref rb) (putF "gates" (.ref ra) (putF "depth" (.int k) [])))) p = some (.ins C dx (putF "out_lines" (.ref rb) (putF "gates" (.ref ra) (putF "depth" (.int k) [])))) := upd_same
  clear h2 h3 G2 G3
  generalize upd (upd (upd H1 p (.ins C dx (putF "depth" (.int k) []))) p (.ins C dx (putF "gates" (.ref ra) (putF "depth" (.int k) [])))) p (.ins C dx (putF "out_lines" (.ref rb) (putF "gates" (.ref ra) (putF "depth" (.int k) [])))) = H4 at gg h4 ⊢
  generalize hf4 : putF "out_lines" (.ref rb) (putF "gates" (.ref ra) (putF "depth" (.int k) [])) = f4 at h4 L4 ⊢
  have G4 := G1.trans gg
  have sa4 := gg.sqT hsa
  refine ⟨szl rfl, fun l0 hl0 => ?_⟩
  have d0 := Grow.new (m := [p]) hl0 (.lst [V.bl true])
  refine ⟨_, rfl, ra, _, rfl, .inr (d0.sqT sa4), l0, _, _, rfl, rfl, upd_same, by omega, by omega, by rw [Int.toNat_natCast]; exact Nat.le_of_lt (small1000 (by show 1 * xa.length ≤ 1000; omega)), fun lu hlu => ?_⟩
  rw [Int.toNat_natCast, flat_rep, lxa]
  have d1 := Grow.new (m := [p]) hlu (.lst (List.replicate (rowsT k).length (V.bl true)))
  have D1 := d0.trans d1
  have h5 : upd (upd H4 l0 (.lst [V.bl true])) lu (.lst (List.replicate (rowsT k).length (V.bl true))) p = some (.ins C dx f4) := by
    have z := (Grow.new (m := []) hl0 (.lst [V.bl true])).keep _ _ (by simp) h4
    exact (Grow.new (m := []) hlu _).keep _ _ (by simp) z
  have u5 : upd (upd H4 l0 (.lst [V.bl true])) lu (.lst (List.replicate (rowsT k).length (V.bl true))) lu = some (.lst (List.replicate (rowsT k).length (V.bl true))) := upd_same
  have nu : H lu = none := by
    have z := (Grow.new (m := []) hl0 (.lst [V.bl true])).free (by simp) hlu
    exact G4.free (fun e => by rw [List.mem_singleton.mp e, h4] at z; cases z) z
  generalize upd (upd H4 l0 (.lst [V.bl true])) lu (.lst (List.replicate (rowsT k).length (V.bl true))) = H5 at D1 h5 u5 ⊢
  have G5 := G4.trans D1
  have pu : lu ≠ p := fun e => by rw [e, h5] at u5; cases u5
  refine ⟨_, rfl, p, C, dx, _, rfl, h5, T.cl, T.n4, Nat.lt_of_le_of_lt L4 (by decide), ?_⟩
  have s5 := Grow.setI (m := [p]) h5 (by simp) (.ins C dx (putF "ups" (.ref lu) f4))
  have h6 : upd H5 p (.ins C dx (putF "ups" (.ref lu) f4)) p = some (.ins C dx (putF "ups" (.ref lu) f4)) := upd_same
  have L5 := Nat.le_trans (putF_len (f := "ups") (v := .ref lu) f4) (Nat.succ_le_succ L4)
  have u6 := s5.keep _ _ (by simpa using pu) u5
  generalize upd H5 p (.ins C dx (putF "ups" (.ref lu) f4)) = H6 at s5 h6 u6 ⊢
  have G6 := G5.trans s5
  refine ⟨szl rfl, fun lt hlt => ?_⟩
  have d2 := Grow.new (m := []) hlt (.lst [])
  have h7 := d2.keep _ _ (by simp) h6
  have pt : lt ≠ p := fun e => by rw [e, h6] at hlt; cases hlt
  have nt : H lt = none := G6.free (by simpa using pt) hlt
  have ut : lu ≠ lt := fun e => by rw [← e, u6] at hlt; cases hlt
  have u7 := d2.keep _ _ (by simp) u6
  have t7 : upd H6 lt (.lst []) lt = some (.lst []) := upd_same
  generalize upd H6 lt (.lst []) = H7 at d2 h7 u7 t7 ⊢
  refine ⟨_, rfl, p, C, dx, _, rfl, h7, T.cl, T.n5, Nat.lt_of_le_of_lt L5 (by decide), ?_⟩
  have s7 := Grow.setI (m := [p]) h7 (by simp) (.ins C dx (putF "tokens" (.ref lt) (putF "ups" (.ref lu) f4)))
  have h8 : upd H7 p (.ins C dx (putF "tokens" (.ref lt) (putF "ups" (.ref lu) f4))) p = some (.ins C dx (putF "tokens" (.ref lt) (putF "ups" (.ref lu) f4))) := upd_same
  have L7 := Nat.le_trans (putF_len (f := "tokens") (v := .ref lt) (putF "ups" (.ref lu) f4)) (Nat.succ_le_succ L5)
  have u8 := s7.keep _ _ (by simpa using pu) u7
  have t8 := s7.keep _ _ (by simpa using pt) t7
  generalize upd H7 p (.ins C dx (putF "tokens" (.ref lt) (putF "ups" (.ref lu) f4))) = H8 at s7 h8 u8 t8 ⊢
  have G8 := G6.trans (d2.wk.trans s7)
  have sb8 : SqT K H8 rb (natsV (lineR k)) := (gg.trans (D1.trans (s5.trans (d2.wk.trans s7)))).sqT hsb'
  refine ⟨szl rfl, fun l9 hl9 => ?_⟩
  have d3 := Grow.new (m := []) hl9 (.lst [V.int 0])
  refine ⟨_, rfl, rb, _, rfl, .inr (d3.sqT sb8), l9, _, _, rfl, rfl, upd_same, by omega, by rw [natsV_len]; omega, by rw [Int.toNat_natCast, natsV_len]; exact Nat.le_of_lt (small1000 (by show 1 * (lineR k).length ≤ 1000; omega)), fun lc hlc => ?_⟩
  rw [Int.toNat_natCast, flat_rep, natsV_len, lR]
  have d4 := d3.trans (Grow.new hlc (.lst (List.replicate (2 ^ k) (V.int 0))))
  have zc : H8 lc = none := d3.free (by simp) hlc
  have h9 := d4.keep _ _ (by simp) h8
  have u9 := d4.keep _ _ (by simp) u8
  have t9 := d4.keep _ _ (by simp) t8
  have c9 : upd (upd H8 l9 (.lst [V.int 0])) lc (.lst (List.replicate (2 ^ k) (V.int 0))) lc = some (.lst (List.replicate (2 ^ k) (V.int 0))) := upd_same
  have pc : lc ≠ p := fun e => by rw [e, h8] at zc; cases zc
  have uc : lu ≠ lc := fun e => by rw [← e, u8] at zc; cases zc
  have tc : lt ≠ lc := fun e => by rw [← e, t8] at zc; cases zc
  have nc : H lc = none := G8.free (by simpa using pc) zc
  generalize upd (upd H8 l9 (.lst [V.int 0])) lc (.lst (List.replicate (2 ^ k) (V.int 0))) = H9 at d4 h9 u9 t9 c9 ⊢
  refine ⟨_, rfl, p, C, dx, _, rfl, h9, T.cl, T.n6, Nat.lt_of_le_of_lt L7 (by decide), ?_⟩
  have s9 := Grow.setI (m := [p]) h9 (by simp) (.ins C dx (putF "came_out" (.ref lc) (putF "tokens" (.ref lt) (putF "ups" (.ref lu) f4))))
  have h10 : upd H9 p (.ins C dx (putF "came_out" (.ref lc) (putF "tokens" (.ref lt) (putF "ups" (.ref lu) f4)))) p = some (.ins C dx (putF "came_out" (.ref lc) (putF "tokens" (.ref lt) (putF "ups" (.ref lu) f4)))) := upd_same
  have L9 := Nat.le_trans (putF_len (f := "came_out") (v := .ref lc) (putF "tokens" (.ref lt) (putF "ups" (.ref lu) f4))) (Nat.succ_le_succ L7)
  have u10 := s9.keep _ _ (by simpa using pu) u9
  have t10 := s9.keep _ _ (by simpa using pt) t9
  have c10 := s9.keep _ _ (by simpa using pc) c9
  generalize upd H9 p (.ins C dx (putF "came_out" (.ref lc) (putF "tokens" (.ref lt) (putF "ups" (.ref lu) f4)))) = H10 at s9 h10 u10 t10 c10 ⊢
  have G10 := G8.trans (d4.wk.trans s9)
  refine ⟨szl rfl, fun lg hlg => ?_⟩
  have d5 := Grow.new (m := []) hlg (.lst [])
  have h11 := d5.keep _ _ (by simp) h10
  have u11 := d5.keep _ _ (by simp) u10
  have t11 := d5.keep _ _ (by simp) t10
  have c11 := d5.keep _ _ (by simp) c10
  have g11 : upd H10 lg (.lst []) lg = some (.lst []) := upd_same
  have pg : lg ≠ p := fun e => by rw [e, h10] at hlg; cases hlg
  have ug : lu ≠ lg := fun e => by rw [← e, u10] at hlg; cases hlg
  have tg : lt ≠ lg := fun e => by rw [← e, t10] at hlg; cases hlg
  have cg : lc ≠ lg := fun e => by rw [← e, c10] at hlg; cases hlg
  have ng : H lg = none := G10.free (by simpa using pg) hlg
  generalize upd H10 lg (.lst []) = H11 at d5 h11 u11 t11 c11 g11 ⊢
  refine ⟨_, rfl, p, C, dx, _, rfl, h11, T.cl, T.n7, Nat.lt_of_le_of_lt L9 (by decide), ?_⟩
  have s11 := Grow.setI (m := [p]) h11 (by simp) (.ins C dx (putF "given" (.ref lg) (putF "came_out" (.ref lc) (putF "tokens" (.ref lt) (putF "ups" (.ref lu) f4)))))
  have GA := gg.trans (D1.trans (s5.trans (d2.wk.trans (s7.trans (d4.wk.trans (s9.trans (d5.wk.trans s11)))))))
  refine q lu lt lc lg _ (G1.trans GA) nu nt nc ng ⟨⟨dx, .ref ra, .ref rb, ?_, GA.rows ⟨ra, xa, rfl, hsa, haa⟩, ⟨rb, rfl, GA.frT hsb⟩⟩, ?_, ⟨[], ?_, trivial⟩, ?_, ?_, ut, uc, ug, tc, tg, cg⟩
  · rw [upd_same, ← hf4]; rfl
  · rw [s11.keep _ _ (by simpa using pu) u11, List.map_replicate]
  · exact s11.keep _ _ (by simpa using pt) t11
  · rw [s11.keep _ _ (by simpa using pc) c11]; unfold natsV; rw [List.map_replicate]; rfl
  · exact s11.keep _ _ (by simpa using pg) g11
theorem sc_law : FnScope ["_law_script", "_law_k", "_law_pot_here", "_law_depths", "_law_counters", "_law_kept", "_law_many_in", "_law_out", "_law_seen", "_law_turn", "_law_one", "_law_found", "_law_deed", "_law_told_here", "_law_state_here", "_law_third"] ["_law_script"] (defScope (top 28)) := ⟨rfl, rfl, rfl, by decide +kernel, rfl, by decide +kernel, by decide +kernel⟩
set_option maxHeartbeats 0 in
theorem ok_law {n : Nat} {f : Addr} {fd : FuncData} (F : Fun K "law" "law" (top 28) f fd) (B : Blt mg) {C : Addr} (T : CTxt K mg C) (mk_C : MkCallee P w K mg base C n ["self", "k"] (sp_init87 C K)) (c__law_state : Callee P w K mg base n "_law_state" ["_law_counter"] (sp_state88 C K)) (c__law_told : Callee P w K mg base n "_law_told" ["_law_counter", "_law_deed"] (sp_told88 C K)) (c__law_draw : Callee P w K mg base n "_law_draw" ["_law_pot_here", "_law_many"] (sp_take K)) (c__law_done : Callee P w K mg base n "_law_done" ["_law_pot_here", "_law_counter", "_law_lines", "_law_many_in", "_law_out"] (sp_done88 C K)) (c__law_pot : Callee P w K mg base n "_law_pot" ["_law_script", "_law_k"] (sp_pot K)) (g_any : mg "any" = none)   :
    FnOk P w K mg base CX0 (n + 1) f fd ["_law_script"] (sp_law K) := by
  refine F.ok sc_law sp1_len (fun cdv A outer s H vs Q E hr h => ?_)
  obtain ⟨x, rfl, a, ns, rfl, hs, h63, q⟩ := h
  refine ⟨_, (@pss_cons _ _ _ _ _ (@ps_for _ _ _ _ _ _ _ _ PassesOwn.never rfl (@pi_range1 _ _ _ _ _ _ rfl B.range (@pa_cons _ _ _ _ _ (@pe_callB _ _ _ _ _ _ _ _ _ (call_max2 rfl) rfl B.max b_max (@pa_cons _ _ _ _ _ pe_int (@pa_cons _ _ _ _ _ (@pe_callB _ _ _ _ _ _ _ _ _ (call_min2 rfl) rfl B.min b_min (@pa_cons _ _ _ _ _ pe_int (@pa_cons _ _ _ _ _ (@pe_callB _ _ _ _ _ _ _ _ _ call_len_seq rfl B.len b_len (@pa_cons _ _ _ _ _ (pv 0) pa_nil (by first | rfl | decide | exact Or.inl rfl | exact Or.inr rfl | exact Or.inr (Or.inl rfl) | exact Or.inr (Or.inr rfl) | exact fun _ => rfl | exact Nat.le_of_ble_eq_true rfl)) (by first | rfl | decide | exact Or.inl rfl | exact Or.inr rfl | exact Or.inr (Or.inl rfl) | exact Or.inr (Or.inr rfl) | exact fun _ => rfl | exact Nat.le_of_ble_eq_true rfl) (by first | rfl | decide | exact Or.inl rfl | exact Or.inr rfl | exact Or.inr (Or.inl rfl) | exact Or.inr (Or.inr rfl) | exact fun _ => rfl | exact Nat.le_of_ble_eq_true rfl) (by first | rfl | decide | exact Or.inl rfl | exact Or.inr rfl | exact Or.inr (Or.inl rfl) | exact Or.inr (Or.inr rfl) | exact fun _ => rfl | exact Nat.le_of_ble_eq_true rfl) (by first | rfl | decide | exact Or.inl rfl | exact Or.inr rfl | exact Or.inr (Or.inl rfl) | exact Or.inr (Or.inr rfl) | exact fun _ => rfl | exact Nat.le_of_ble_eq_true rfl)) pa_nil (by first | rfl | decide | exact Or.inl rfl | exact Or.inr rfl | exact Or.inr (Or.inl rfl) | exact Or.inr (Or.inr rfl) | exact fun _ => rfl | exact Nat.le_of_ble_eq_true rfl)) (by first | rfl | decide | exact Or.inl rfl | exact Or.inr rfl | exact Or.inr (Or.inl rfl) | exact Or.inr (Or.inr rfl) | exact fun _ => rfl | exact Nat.le_of_ble_eq_true rfl)) (by first | rfl | decide | exact Or.inl rfl | exact Or.inr rfl | exact Or.inr (Or.inl rfl) | exact Or.inr (Or.inr rfl) | exact fun _ => rfl | exact Nat.le_of_ble_eq_true rfl) (by first | rfl | decide | exact Or.inl rfl | exact Or.inr rfl | exact Or.inr (Or.inl rfl) | exact Or.inr (Or.inr rfl) | exact fun _ => rfl | exact Nat.le_of_ble_eq_true rfl) (by first | rfl | decide | exact Or.inl rfl | exact Or.inr rfl | exact Or.inr (Or.inl rfl) | exact Or.inr (Or.inr rfl) | exact fun _ => rfl | exact Nat.le_of_ble_eq_true rfl) (by first | rfl | decide | exact Or.inl rfl | exact Or.inr rfl | exact Or.inr (Or.inl rfl) | exact Or.inr (Or.inr rfl) | exact fun _ => rfl | exact Nat.le_of_ble_eq_true rfl)) pa_nil (by first | rfl | decide | exact Or.inl rfl | exact Or.inr rfl | exact Or.inr (Or.inl rfl) | exact Or.inr (Or.inr rfl) | exact fun _ => rfl | exact Nat.le_of_ble_eq_true rfl)) (by first | rfl | decide | exact Or.inl rfl | exact Or.inr rfl | exact Or.inr (Or.inl rfl) | exact Or.inr (Or.inr rfl) | exact fun _ => rfl | exact Nat.le_of_ble_eq_true rfl)) (by first | rfl | decide | exact Or.inl rfl | exact Or.inr rfl | exact Or.inr (Or.inl rfl) | exact Or.inr (Or.inr rfl) | exact fun _ => rfl | exact Nat.le_of_ble_eq_true rfl) (by first | rfl | decide | exact Or.inl rfl | exact Or.inr rfl | exact Or.inr (Or.inl rfl) | exact Or.inr (Or.inr rfl) | exact fun _ => rfl | exact Nat.le_of_ble_eq_true rfl) (by first | rfl | decide | exact Or.inl rfl | exact Or.inr rfl | exact Or.inr (Or.inl rfl) | exact Or.inr (Or.inr rfl) | exact fun _ => rfl | exact Nat.le_of_ble_eq_true rfl) (by first | rfl | decide | exact Or.inl rfl | exact Or.inr rfl | exact Or.inr (Or.inl rfl) | exact Or.inr (Or.inr rfl) | exact fun _ => rfl | exact Nat.le_of_ble_eq_true rfl)) pa_nil (by first | rfl | decide | exact Or.inl rfl | exact Or.inr rfl | exact Or.inr (Or.inl rfl) | exact Or.inr (Or.inr rfl) | exact fun _ => rfl | exact Nat.le_of_ble_eq_true rfl)) (by first | rfl | decide | exact Or.inl rfl | exact Or.inr rfl | exact Or.inr (Or.inl rfl) | exact Or.inr (Or.inr rfl) | exact fun _ => rfl | exact Nat.le_of_ble_eq_true rfl)) (pg_name (i := 1) sc_law.nd rfl (Or.inl rfl)) (@pss_cons _ _ _ _ _ (@ps_set _ _ 2 _ _ _ _ sc_law.nd rfl (Or.inl rfl) (@pe_callC _ _ _ _ _ _ _ _ _ _ c__law_pot hr rfl (@pa_cons _ _ _ _ _ (pv 0) (@pa_cons _ _ _ _ _ (pv 1) pa_nil (by first | rfl | decide | exact Or.inl rfl | exact Or.inr rfl | exact Or.inr (Or.inl rfl) | exact Or.inr (Or.inr rfl) | exact fun _ => rfl | exact Nat.le_of_ble_eq_true rfl)) (by first | rfl | decide | exact Or.inl rfl | exact Or.inr rfl | exact Or.inr (Or.inl rfl) | exact Or.inr (Or.inr rfl) | exact fun _ => rfl | exact Nat.le_of_ble_eq_true rfl)) (by first | rfl | decide | exact Or.inl rfl | exact Or.inr rfl | exact Or.inr (Or.inl rfl) | exact Or.inr (Or.inr rfl) | exact fun _ => rfl | exact Nat.le_of_ble_eq_true rfl) (by first | rfl | decide | exact Or.inl rfl | exact Or.inr rfl | exact Or.inr (Or.inl rfl) | exact Or.inr (Or.inr rfl) | exact fun _ => rfl | exact Nat.le_of_ble_eq_true rfl) (by first | rfl | decide | exact Or.inl rfl | exact Or.inr rfl | exact Or.inr (Or.inl rfl) | exact Or.inr (Or.inr rfl) | exact fun _ => rfl | exact Nat.le_of_ble_eq_true rfl)) (by first | rfl | decide | exact Or.inl rfl | exact Or.inr rfl | exact Or.inr (Or.inl rfl) | exact Or.inr (Or.inr rfl) | exact fun _ => rfl | exact Nat.le_of_ble_eq_true rfl) (by first | rfl | decide | exact Or.inl rfl | exact Or.inr rfl | exact Or.inr (Or.inl rfl) | exact Or.inr (Or.inr rfl) | exact fun _ => rfl | exact Nat.le_of_ble_eq_true rfl)) (@pss_cons _ _ _ _ _ (@ps_set _ _ 3 _ _ _ _ sc_law.nd rfl (Or.inl rfl) (@pe_lst _ _ _ _ (@pa_cons _ _ _ _ _ (@pe_callC _ _ _ _ _ _ _ _ _ _ c__law_draw hr rfl (@pa_cons _ _ _ _ _ (pv 2) (@pa_cons _ _ _ _ _ pe_int pa_nil (by first | rfl | decide | exact Or.inl rfl | exact Or.inr rfl | exact Or.inr (Or.inl rfl) | exact Or.inr (Or.inr rfl) | exact fun _ => rfl | exact Nat.le_of_ble_eq_true rfl)) (by first | rfl | decide | exact Or.inl rfl | exact Or.inr rfl | exact Or.inr (Or.inl rfl) | exact Or.inr (Or.inr rfl) | exact fun _ => rfl | exact Nat.le_of_ble_eq_true rfl)) (by first | rfl | decide | exact Or.inl rfl | exact Or.inr rfl | exact Or.inr (Or.inl rfl) | exact Or.inr (Or.inr rfl) | exact fun _ => rfl | exact Nat.le_of_ble_eq_true rfl) (by first | rfl | decide | exact Or.inl rfl | exact Or.inr rfl | exact Or.inr (Or.inl rfl) | exact Or.inr (Or.inr rfl) | exact fun _ => rfl | exact Nat.le_of_ble_eq_true rfl) (by first | rfl | decide | exact Or.inl rfl | exact Or.inr rfl | exact Or.inr (Or.inl rfl) | exact Or.inr (Or.inr rfl) | exact fun _ => rfl | exact Nat.le_of_ble_eq_true rfl)) (@pa_cons _ _ _ _ _ (@pe_callC _ _ _ _ _ _ _ _ _ _ c__law_draw hr rfl (@pa_cons _ _ _ _ _ (pv 2) (@pa_cons _ _ _ _ _ pe_int pa_nil (by first | rfl | decide | exact Or.inl rfl | exact Or.inr rfl | exact Or.inr (Or.inl rfl) | exact Or.inr (Or.inr rfl) | exact fun _ => rfl | exact Nat.le_of_ble_eq_true rfl)) (by first | rfl | decide | exact Or.inl rfl | exact Or.inr rfl | exact Or.inr (Or.inl rfl) | exact Or.inr (Or.inr rfl) | exact fun _ => rfl | exact Nat.le_of_ble_eq_true rfl)) (by first | rfl | decide | exact Or.inl rfl | exact Or.inr rfl | exact Or.inr (Or.inl rfl) | exact Or.inr (Or.inr rfl) | exact fun _ => rfl | exact Nat.le_of_ble_eq_true rfl) (by first | rfl | decide | exact Or.inl rfl | exact Or.inr rfl | exact Or.inr (Or.inl rfl) | exact Or.inr (Or.inr rfl) | exact fun _ => rfl | exact Nat.le_of_ble_eq_true rfl) (by first | rfl | decide | exact Or.inl rfl | exact Or.inr rfl | exact Or.inr (Or.inl rfl) | exact Or.inr (Or.inr rfl) | exact fun _ => rfl | exact Nat.le_of_ble_eq_true rfl)) pa_nil (by first | rfl | decide | exact Or.inl rfl | exact Or.inr rfl | exact Or.inr (Or.inl rfl) | exact Or.inr (Or.inr rfl) | exact fun _ => rfl | exact Nat.le_of_ble_eq_true rfl)) (by first | rfl | decide | exact Or.inl rfl | exact Or.inr rfl | exact Or.inr (Or.inl rfl) | exact Or.inr (Or.inr rfl) | exact fun _ => rfl | exact Nat.le_of_ble_eq_true rfl))) (by first | rfl | decide | exact Or.inl rfl | exact Or.inr rfl | exact Or.inr (Or.inl rfl) | exact Or.inr (Or.inr rfl) | exact fun _ => rfl | exact Nat.le_of_ble_eq_true rfl) (by first | rfl | decide | exact Or.inl rfl | exact Or.inr rfl | exact Or.inr (Or.inl rfl) | exact Or.inr (Or.inr rfl) | exact fun _ => rfl | exact Nat.le_of_ble_eq_true rfl)) (@pss_cons _ _ _ _ _ (@ps_set _ _ 4 _ _ _ _ sc_law.nd rfl (Or.inl rfl) (@pe_lst _ _ _ _ (@pa_cons _ _ _ _ _ (pe_makeC mk_C hr rfl T.mgC (@pa_cons _ _ _ _ _ (@pe_ix _ _ _ _ _ _ _ ix_list (pv 3) pe_int (fun _ _ => rfl)) pa_nil (by first | rfl | decide | exact Or.inl rfl | exact Or.inr rfl | exact Or.inr (Or.inl rfl) | exact Or.inr (Or.inr rfl) | exact fun _ => rfl | exact Nat.le_of_ble_eq_true rfl))) (@pa_cons _ _ _ _ _ (pe_makeC mk_C hr rfl T.mgC (@pa_cons _ _ _ _ _ (@pe_ix _ _ _ _ _ _ _ ix_list (pv 3) pe_int (fun _ _ => rfl)) pa_nil (by first | rfl | decide | exact Or.inl rfl | exact Or.inr rfl | exact Or.inr (Or.inl rfl) | exact Or.inr (Or.inr rfl) | exact fun _ => rfl | exact Nat.le_of_ble_eq_true rfl))) pa_nil (by first | rfl | decide | exact Or.inl rfl | exact Or.inr rfl | exact Or.inr (Or.inl rfl) | exact Or.inr (Or.inr rfl) | exact fun _ => rfl | exact Nat.le_of_ble_eq_true rfl)) (by first | rfl | decide | exact Or.inl rfl | exact Or.inr rfl | exact Or.inr (Or.inl rfl) | exact Or.inr (Or.inr rfl) | exact fun _ => rfl | exact Nat.le_of_ble_eq_true rfl))) (by first | rfl | decide | exact Or.inl rfl | exact Or.inr rfl | exact Or.inr (Or.inl rfl) | exact Or.inr (Or.inr rfl) | exact fun _ => rfl | exact Nat.le_of_ble_eq_true rfl) (by first | rfl | decide | exact Or.inl rfl | exact Or.inr rfl | exact Or.inr (Or.inl rfl) | exact Or.inr (Or.inr rfl) | exact fun _ => rfl | exact Nat.le_of_ble_eq_true rfl)) (@pss_cons _ _ _ _ _ (@ps_asg _ _ _ _ _ _ (@pe_tup _ _ _ _ _ (@pa_cons _ _ _ _ _ (@pe_lst _ _ _ _ (@pa_cons _ _ _ _ _ (@pe_lst _ _ _ _ pa_nil) (@pa_cons _ _ _ _ _ (@pe_lst _ _ _ _ pa_nil) pa_nil star_list) star_list)) (@pa_cons _ _ _ _ _ (@pe_lst _ _ _ _ (@pa_cons _ _ _ _ _ pe_int (@pa_cons _ _ _ _ _ pe_int pa_nil (by first | rfl | decide | exact Or.inl rfl | exact Or.inr rfl | exact Or.inr (Or.inl rfl) | exact Or.inr (Or.inr rfl) | exact fun _ => rfl | exact Nat.le_of_ble_eq_true rfl)) (by first | rfl | decide | exact Or.inl rfl | exact Or.inr rfl | exact Or.inr (Or.inl rfl) | exact Or.inr (Or.inr rfl) | exact fun _ => rfl | exact Nat.le_of_ble_eq_true rfl))) (@pa_cons _ _ _ _ _ (@pe_lst _ _ _ _ (@pa_cons _ _ _ _ _ (@pe_lst _ _ _ _ pa_nil) (@pa_cons _ _ _ _ _ (@pe_lst _ _ _ _ pa_nil) pa_nil star_list) star_list)) (@pa_cons _ _ _ _ _ (@pe_lst _ _ _ _ pa_nil) pa_nil star_list) star_list) star_list) star_list)) (pg_tup rfl (pgs_cons (pg_name (i := 5) sc_law.nd rfl (Or.inl rfl)) (pgs_cons (pg_name (i := 6) sc_law.nd rfl (Or.inl rfl)) (pgs_cons (pg_name (i := 7) sc_law.nd rfl (Or.inl rfl)) (pgs_cons (pg_name (i := 8) sc_law.nd rfl (Or.inl rfl)) pgs_nil))))) (by first | rfl | decide | exact Or.inl rfl | exact Or.inr rfl | exact Or.inr (Or.inl rfl) | exact Or.inr (Or.inr rfl) | exact fun _ => rfl | exact Nat.le_of_ble_eq_true rfl) (by first | rfl | decide | exact Or.inl rfl | exact Or.inr rfl | exact Or.inr (Or.inl rfl) | exact Or.inr (Or.inr rfl) | exact fun _ => rfl | exact Nat.le_of_ble_eq_true rfl) (by first | rfl | decide | exact Or.inl rfl | exact Or.inr rfl | exact Or.inr (Or.inl rfl) | exact Or.inr (Or.inr rfl) | exact fun _ => rfl | exact Nat.le_of_ble_eq_true rfl)) (@pss_cons _ _ _ _ _ (@ps_for _ _ _ _ _ _ _ _ PassesOwn.never rfl (@pi_range1 _ _ _ _ _ _ rfl B.range (@pa_cons _ _ _ _ _ (@pe_callC _ _ _ _ _ _ _ _ _ _ c__law_draw hr rfl (@pa_cons _ _ _ _ _ (pv 2) (@pa_cons _ _ _ _ _ pe_int pa_nil (by first | rfl | decide | exact Or.inl rfl | exact Or.inr rfl | exact Or.inr (Or.inl rfl) | exact Or.inr (Or.inr rfl) | exact fun _ => rfl | exact Nat.le_of_ble_eq_true rfl)) (by first | rfl | decide | exact Or.inl rfl | exact Or.inr rfl | exact Or.inr (Or.inl rfl) | exact Or.inr (Or.inr rfl) | exact fun _ => rfl | exact Nat.le_of_ble_eq_true rfl)) (by first | rfl | decide | exact Or.inl rfl | exact Or.inr rfl | exact Or.inr (Or.inl rfl) | exact Or.inr (Or.inr rfl) | exact fun _ => rfl | exact Nat.le_of_ble_eq_true rfl) (by first | rfl | decide | exact Or.inl rfl | exact Or.inr rfl | exact Or.inr (Or.inl rfl) | exact Or.inr (Or.inr rfl) | exact fun _ => rfl | exact Nat.le_of_ble_eq_true rfl) (by first | rfl | decide | exact Or.inl rfl | exact Or.inr rfl | exact Or.inr (Or.inl rfl) | exact Or.inr (Or.inr rfl) | exact fun _ => rfl | exact Nat.le_of_ble_eq_true rfl)) pa_nil (by first | rfl | decide | exact Or.inl rfl | exact Or.inr rfl | exact Or.inr (Or.inl rfl) | exact Or.inr (Or.inr rfl) | exact fun _ => rfl | exact Nat.le_of_ble_eq_true rfl)) (by first | rfl | decide | exact Or.inl rfl | exact Or.inr rfl | exact Or.inr (Or.inl rfl) | exact Or.inr (Or.inr rfl) | exact fun _ => rfl | exact Nat.le_of_ble_eq_true rfl)) (pg_name (i := 9) sc_law.nd rfl (Or.inl rfl)) (@pss_cons _ _ _ _ _ (@ps_set _ _ 10 _ _ _ _ sc_law.nd rfl (Or.inl rfl) (@pe_callC _ _ _ _ _ _ _ _ _ _ c__law_draw hr rfl (@pa_cons _ _ _ _ _ (pv 2) (@pa_cons _ _ _ _ _ pe_int pa_nil (by first | rfl | decide | exact Or.inl rfl | exact Or.inr rfl | exact Or.inr (Or.inl rfl) | exact Or.inr (Or.inr rfl) | exact fun _ => rfl | exact Nat.le_of_ble_eq_true rfl)) (by first | rfl | decide | exact Or.inl rfl | exact Or.inr rfl | exact Or.inr (Or.inl rfl) | exact Or.inr (Or.inr rfl) | exact fun _ => rfl | exact Nat.le_of_ble_eq_true rfl)) (by first | rfl | decide | exact Or.inl rfl | exact Or.inr rfl | exact Or.inr (Or.inl rfl) | exact Or.inr (Or.inr rfl) | exact fun _ => rfl | exact Nat.le_of_ble_eq_true rfl) (by first | rfl | decide | exact Or.inl rfl | exact Or.inr rfl | exact Or.inr (Or.inl rfl) | exact Or.inr (Or.inr rfl) | exact fun _ => rfl | exact Nat.le_of_ble_eq_true rfl) (by first | rfl | decide | exact Or.inl rfl | exact Or.inr rfl | exact Or.inr (Or.inl rfl) | exact Or.inr (Or.inr rfl) | exact fun _ => rfl | exact Nat.le_of_ble_eq_true rfl)) (by first | rfl | decide | exact Or.inl rfl | exact Or.inr rfl | exact Or.inr (Or.inl rfl) | exact Or.inr (Or.inr rfl) | exact fun _ => rfl | exact Nat.le_of_ble_eq_true rfl) (by first | rfl | decide | exact Or.inl rfl | exact Or.inr rfl | exact Or.inr (Or.inl rfl) | exact Or.inr (Or.inr rfl) | exact fun _ => rfl | exact Nat.le_of_ble_eq_true rfl)) (@pss_cons _ _ _ _ _ (@ps_set _ _ 11 _ _ _ _ sc_law.nd rfl (Or.inl rfl) (@pe_callC _ _ _ _ _ _ _ _ _ _ c__law_done hr rfl (@pa_cons _ _ _ _ _ (pv 2) (@pa_cons _ _ _ _ _ (@pe_ix _ _ _ _ _ _ _ ix_list (pv 4) (pv 10) (fun _ _ => rfl)) (@pa_cons _ _ _ _ _ (@pe_op _ _ _ _ _ _ _ _ op_shl pe_int (@pe_ix _ _ _ _ _ _ _ ix_list (pv 3) (pv 10) (fun _ _ => rfl))) (@pa_cons _ _ _ _ _ (@pe_ix _ _ _ _ _ _ _ ix_list (pv 6) (pv 10) (fun _ _ => rfl)) (@pa_cons _ _ _ _ _ (@pe_ix _ _ _ _ _ _ _ ix_list (pv 7) (pv 10) (fun _ _ => rfl)) pa_nil (by first | rfl | decide | exact Or.inl rfl | exact Or.inr rfl | exact Or.inr (Or.inl rfl) | exact Or.inr (Or.inr rfl) | exact fun _ => rfl | exact Nat.le_of_ble_eq_true rfl)) (by first | rfl | decide | exact Or.inl rfl | exact Or.inr rfl | exact Or.inr (Or.inl rfl) | exact Or.inr (Or.inr rfl) | exact fun _ => rfl | exact Nat.le_of_ble_eq_true rfl)) (by first | rfl | decide | exact Or.inl rfl | exact Or.inr rfl | exact Or.inr (Or.inl rfl) | exact Or.inr (Or.inr rfl) | exact fun _ => rfl | exact Nat.le_of_ble_eq_true rfl)) (by first | rfl | decide | exact Or.inl rfl | exact Or.inr rfl | exact Or.inr (Or.inl rfl) | exact Or.inr (Or.inr rfl) | exact fun _ => rfl | exact Nat.le_of_ble_eq_true rfl)) (by first | rfl | decide | exact Or.inl rfl | exact Or.inr rfl | exact Or.inr (Or.inl rfl) | exact Or.inr (Or.inr rfl) | exact fun _ => rfl | exact Nat.le_of_ble_eq_true rfl)) (by first | rfl | decide | exact Or.inl rfl | exact Or.inr rfl | exact Or.inr (Or.inl rfl) | exact Or.inr (Or.inr rfl) | exact fun _ => rfl | exact Nat.le_of_ble_eq_true rfl) (by first | rfl | decide | exact Or.inl rfl | exact Or.inr rfl | exact Or.inr (Or.inl rfl) | exact Or.inr (Or.inr rfl) | exact fun _ => rfl | exact Nat.le_of_ble_eq_true rfl) (by first | rfl | decide | exact Or.inl rfl | exact Or.inr rfl | exact Or.inr (Or.inl rfl) | exact Or.inr (Or.inr rfl) | exact fun _ => rfl | exact Nat.le_of_ble_eq_true rfl)) (by first | rfl | decide | exact Or.inl rfl | exact Or.inr rfl | exact Or.inr (Or.inl rfl) | exact Or.inr (Or.inr rfl) | exact fun _ => rfl | exact Nat.le_of_ble_eq_true rfl) (by first | rfl | decide | exact Or.inl rfl | exact Or.inr rfl | exact Or.inr (Or.inl rfl) | exact Or.inr (Or.inr rfl) | exact fun _ => rfl | exact Nat.le_of_ble_eq_true rfl)) (@pss_cons _ _ _ _ _ (@ps_if _ _ _ _ _ _ _ _ (@pt_cmp _ _ _ _ _ _ (@pc_isN _ _ _ _ _ (pv 11)) (by first | rfl | decide | exact Or.inl rfl | exact Or.inr rfl | exact Or.inr (Or.inl rfl) | exact Or.inr (Or.inr rfl) | exact fun _ => rfl | exact Nat.le_of_ble_eq_true rfl)) (@pss_one _ _ _ (@ps_ret _ _ _ _ pe_bl)) pss_nil) (@pss_cons _ _ _ _ _ (@ps_expr _ _ _ _ (@pe_bm _ _ _ _ _ _ _ _ _ _ _ _ PySem.F.plainAttrs_list PySem.F.slot_list_append PySem.F.type_list_append mt_append (@pe_ix _ _ _ _ _ _ _ ix_list (pv 5) (pv 10) (fun _ _ => rfl)) (@pa_cons _ _ _ _ _ (pv 11) pa_nil (by first | rfl | decide | exact Or.inl rfl | exact Or.inr rfl | exact Or.inr (Or.inl rfl) | exact Or.inr (Or.inr rfl) | exact fun _ => rfl | exact Nat.le_of_ble_eq_true rfl)) (by first | rfl | decide | exact Or.inl rfl | exact Or.inr rfl | exact Or.inr (Or.inl rfl) | exact Or.inr (Or.inr rfl) | exact fun _ => rfl | exact Nat.le_of_ble_eq_true rfl) (by first | rfl | decide | exact Or.inl rfl | exact Or.inr rfl | exact Or.inr (Or.inl rfl) | exact Or.inr (Or.inr rfl) | exact fun _ => rfl | exact Nat.le_of_ble_eq_true rfl) (by first | rfl | decide | exact Or.inl rfl | exact Or.inr rfl | exact Or.inr (Or.inl rfl) | exact Or.inr (Or.inr rfl) | exact fun _ => rfl | exact Nat.le_of_ble_eq_true rfl) (by first | rfl | decide | exact Or.inl rfl | exact Or.inr rfl | exact Or.inr (Or.inl rfl) | exact Or.inr (Or.inr rfl) | exact fun _ => rfl | exact Nat.le_of_ble_eq_true rfl) (by first | rfl | decide | exact Or.inl rfl | exact Or.inr rfl | exact Or.inr (Or.inl rfl) | exact Or.inr (Or.inr rfl) | exact fun _ => rfl | exact Nat.le_of_ble_eq_true rfl)) (by first | rfl | decide | exact Or.inl rfl | exact Or.inr rfl | exact Or.inr (Or.inl rfl) | exact Or.inr (Or.inr rfl) | exact fun _ => rfl | exact Nat.le_of_ble_eq_true rfl)) (@pss_cons _ _ _ _ _ (@ps_asg _ _ _ _ _ _ (pv 11) (pg_tup rfl (pgs_cons (pg_name (i := 12) sc_law.nd rfl (Or.inl rfl)) (pgs_cons (pg_name (i := 13) sc_law.nd rfl (Or.inl rfl)) pgs_nil))) (by first | rfl | decide | exact Or.inl rfl | exact Or.inr rfl | exact Or.inr (Or.inl rfl) | exact Or.inr (Or.inr rfl) | exact fun _ => rfl | exact Nat.le_of_ble_eq_true rfl) (by first | rfl | decide | exact Or.inl rfl | exact Or.inr rfl | exact Or.inr (Or.inl rfl) | exact Or.inr (Or.inr rfl) | exact fun _ => rfl | exact Nat.le_of_ble_eq_true rfl) (by first | rfl | decide | exact Or.inl rfl | exact Or.inr rfl | exact Or.inr (Or.inl rfl) | exact Or.inr (Or.inr rfl) | exact fun _ => rfl | exact Nat.le_of_ble_eq_true rfl)) (@pss_cons _ _ _ _ _ (@ps_if _ _ _ _ _ _ _ _ (@PW.pt _ _ _ (@pw_and _ _ _ _ _ _ _ (@pt_cmpR _ _ _ _ _ _ _ _ op_eq (@pe_ix _ _ _ _ _ _ _ ix_tup (pv 12) pe_int (fun _ _ => rfl)) pe_int (nomark _)) (@pw_and1 _ _ _ _ (@pt_not _ _ _ _ (@pt_val _ _ _ (@pe_callB _ _ _ _ _ _ _ _ _ call_isi rfl B.isinstance b_isinstance (@pa_cons _ _ _ _ _ (pv 13) (@pa_cons _ _ _ _ _ (pe_tyn rfl B.list b_list) pa_nil (by first | rfl | decide | exact Or.inl rfl | exact Or.inr rfl | exact Or.inr (Or.inl rfl) | exact Or.inr (Or.inr rfl) | exact fun _ => rfl | exact Nat.le_of_ble_eq_true rfl)) (by first | rfl | decide | exact Or.inl rfl | exact Or.inr rfl | exact Or.inr (Or.inl rfl) | exact Or.inr (Or.inr rfl) | exact fun _ => rfl | exact Nat.le_of_ble_eq_true rfl)) (by first | rfl | decide | exact Or.inl rfl | exact Or.inr rfl | exact Or.inr (Or.inl rfl) | exact Or.inr (Or.inr rfl) | exact fun _ => rfl | exact Nat.le_of_ble_eq_true rfl) (by first | rfl | decide | exact Or.inl rfl | exact Or.inr rfl | exact Or.inr (Or.inl rfl) | exact Or.inr (Or.inr rfl) | exact fun _ => rfl | exact Nat.le_of_ble_eq_true rfl) (by first | rfl | decide | exact Or.inl rfl | exact Or.inr rfl | exact Or.inr (Or.inl rfl) | exact Or.inr (Or.inr rfl) | exact fun _ => rfl | exact Nat.le_of_ble_eq_true rfl) (by first | rfl | decide | exact Or.inl rfl | exact Or.inr rfl | exact Or.inr (Or.inl rfl) | exact Or.inr (Or.inr rfl) | exact fun _ => rfl | exact Nat.le_of_ble_eq_true rfl)) (by first | rfl | decide | exact Or.inl rfl | exact Or.inr rfl | exact Or.inr (Or.inl rfl) | exact Or.inr (Or.inr rfl) | exact fun _ => rfl | exact Nat.le_of_ble_eq_true rfl)))))) (@pss_one _ _ _ (@ps_asg _ _ _ _ _ _ (@pe_op _ _ _ _ _ _ _ _ op_add (@pe_ix _ _ _ _ _ _ _ ix_list (pv 6) (pv 10) (fun _ _ => rfl)) pe_int) (pg_sub (pv 6) (pv 10) set_list) (by first | rfl | decide | exact Or.inl rfl | exact Or.inr rfl | exact Or.inr (Or.inl rfl) | exact Or.inr (Or.inr rfl) | exact fun _ => rfl | exact Nat.le_of_ble_eq_true rfl) (by first | rfl | decide | exact Or.inl rfl | exact Or.inr rfl | exact Or.inr (Or.inl rfl) | exact Or.inr (Or.inr rfl) | exact fun _ => rfl | exact Nat.le_of_ble_eq_true rfl) (by first | rfl | decide | exact Or.inl rfl | exact Or.inr rfl | exact Or.inr (Or.inl rfl) | exact Or.inr (Or.inr rfl) | exact fun _ => rfl | exact Nat.le_of_ble_eq_true rfl))) (@pss_one _ _ _ (@ps_if _ _ _ _ _ _ _ _ (@PW.pt _ _ _ (@pw_and _ _ _ _ _ _ _ (@pt_cmpR _ _ _ _ _ _ _ _ op_eq (@pe_ix _ _ _ _ _ _ _ ix_tup (pv 12) pe_int (fun _ _ => rfl)) pe_int (nomark _)) (@pw_and _ _ _ _ _ _ _ (@pt_cmp _ _ _ _ _ _ (@pc_notN _ _ _ _ _ (pv 13)) (by first | rfl | decide | exact Or.inl rfl | exact Or.inr rfl | exact Or.inr (Or.inl rfl) | exact Or.inr (Or.inr rfl) | exact fun _ => rfl | exact Nat.le_of_ble_eq_true rfl)) (@pw_and1 _ _ _ _ (@pt_not _ _ _ _ (@pt_val _ _ _ (@pe_callB _ _ _ _ _ _ _ _ _ call_isi rfl B.isinstance b_isinstance (@pa_cons _ _ _ _ _ (pv 13) (@pa_cons _ _ _ _ _ (pe_tyn rfl B.list b_list) pa_nil (by first | rfl | decide | exact Or.inl rfl | exact Or.inr rfl | exact Or.inr (Or.inl rfl) | exact Or.inr (Or.inr rfl) | exact fun _ => rfl | exact Nat.le_of_ble_eq_true rfl)) (by first | rfl | decide | exact Or.inl rfl | exact Or.inr rfl | exact Or.inr (Or.inl rfl) | exact Or.inr (Or.inr rfl) | exact fun _ => rfl | exact Nat.le_of_ble_eq_true rfl)) (by first | rfl | decide | exact Or.inl rfl | exact Or.inr rfl | exact Or.inr (Or.inl rfl) | exact Or.inr (Or.inr rfl) | exact fun _ => rfl | exact Nat.le_of_ble_eq_true rfl) (by first | rfl | decide | exact Or.inl rfl | exact Or.inr rfl | exact Or.inr (Or.inl rfl) | exact Or.inr (Or.inr rfl) | exact fun _ => rfl | exact Nat.le_of_ble_eq_true rfl) (by first | rfl | decide | exact Or.inl rfl | exact Or.inr rfl | exact Or.inr (Or.inl rfl) | exact Or.inr (Or.inr rfl) | exact fun _ => rfl | exact Nat.le_of_ble_eq_true rfl) (by first | rfl | decide | exact Or.inl rfl | exact Or.inr rfl | exact Or.inr (Or.inl rfl) | exact Or.inr (Or.inr rfl) | exact fun _ => rfl | exact Nat.le_of_ble_eq_true rfl)) (by first | rfl | decide | exact Or.inl rfl | exact Or.inr rfl | exact Or.inr (Or.inl rfl) | exact Or.inr (Or.inr rfl) | exact fun _ => rfl | exact Nat.le_of_ble_eq_true rfl))))))) (@pss_one _ _ _ (@ps_expr _ _ _ _ (@pe_bm _ _ _ _ _ _ _ _ _ _ _ _ PySem.F.plainAttrs_list PySem.F.slot_list_append PySem.F.type_list_append mt_append (@pe_ix _ _ _ _ _ _ _ ix_list (pv 7) (pv 10) (fun _ _ => rfl)) (@pa_cons _ _ _ _ _ (@pe_ix _ _ _ _ _ _ _ ix_tup (pv 12) pe_int (fun _ _ => rfl)) pa_nil (by first | rfl | decide | exact Or.inl rfl | exact Or.inr rfl | exact Or.inr (Or.inl rfl) | exact Or.inr (Or.inr rfl) | exact fun _ => rfl | exact Nat.le_of_ble_eq_true rfl)) (by first | rfl | decide | exact Or.inl rfl | exact Or.inr rfl | exact Or.inr (Or.inl rfl) | exact Or.inr (Or.inr rfl) | exact fun _ => rfl | exact Nat.le_of_ble_eq_true rfl) (by first | rfl | decide | exact Or.inl rfl | exact Or.inr rfl | exact Or.inr (Or.inl rfl) | exact Or.inr (Or.inr rfl) | exact fun _ => rfl | exact Nat.le_of_ble_eq_true rfl) (by first | rfl | decide | exact Or.inl rfl | exact Or.inr rfl | exact Or.inr (Or.inl rfl) | exact Or.inr (Or.inr rfl) | exact fun _ => rfl | exact Nat.le_of_ble_eq_true rfl) (by first | rfl | decide | exact Or.inl rfl | exact Or.inr rfl | exact Or.inr (Or.inl rfl) | exact Or.inr (Or.inr rfl) | exact fun _ => rfl | exact Nat.le_of_ble_eq_true rfl) (by first | rfl | decide | exact Or.inl rfl | exact Or.inr rfl | exact Or.inr (Or.inl rfl) | exact Or.inr (Or.inr rfl) | exact fun _ => rfl | exact Nat.le_of_ble_eq_true rfl)) (by first | rfl | decide | exact Or.inl rfl | exact Or.inr rfl | exact Or.inr (Or.inl rfl) | exact Or.inr (Or.inr rfl) | exact fun _ => rfl | exact Nat.le_of_ble_eq_true rfl))) pss_nil))) (@pss_cons _ _ _ _ _ (@ps_set _ _ 14 _ _ _ _ sc_law.nd rfl (Or.inl rfl) (@pe_callC _ _ _ _ _ _ _ _ _ _ c__law_state hr rfl (@pa_cons _ _ _ _ _ (@pe_ix _ _ _ _ _ _ _ ix_list (pv 4) (pv 10) (fun _ _ => rfl)) pa_nil (by first | rfl | decide | exact Or.inl rfl | exact Or.inr rfl | exact Or.inr (Or.inl rfl) | exact Or.inr (Or.inr rfl) | exact fun _ => rfl | exact Nat.le_of_ble_eq_true rfl)) (by first | rfl | decide | exact Or.inl rfl | exact Or.inr rfl | exact Or.inr (Or.inl rfl) | exact Or.inr (Or.inr rfl) | exact fun _ => rfl | exact Nat.le_of_ble_eq_true rfl) (by first | rfl | decide | exact Or.inl rfl | exact Or.inr rfl | exact Or.inr (Or.inl rfl) | exact Or.inr (Or.inr rfl) | exact fun _ => rfl | exact Nat.le_of_ble_eq_true rfl) (by first | rfl | decide | exact Or.inl rfl | exact Or.inr rfl | exact Or.inr (Or.inl rfl) | exact Or.inr (Or.inr rfl) | exact fun _ => rfl | exact Nat.le_of_ble_eq_true rfl)) (by first | rfl | decide | exact Or.inl rfl | exact Or.inr rfl | exact Or.inr (Or.inl rfl) | exact Or.inr (Or.inr rfl) | exact fun _ => rfl | exact Nat.le_of_ble_eq_true rfl) (by first | rfl | decide | exact Or.inl rfl | exact Or.inr rfl | exact Or.inr (Or.inl rfl) | exact Or.inr (Or.inr rfl) | exact fun _ => rfl | exact Nat.le_of_ble_eq_true rfl)) (@pss_one _ _ _ (@ps_expr _ _ _ _ (@pe_bm _ _ _ _ _ _ _ _ _ _ _ _ PySem.F.plainAttrs_list PySem.F.slot_list_append PySem.F.type_list_append mt_append (pv 8) (@pa_cons _ _ _ _ _ (@pe_tup _ _ _ _ _ (@pa_cons _ _ _ _ _ (pv 14) (@pa_cons _ _ _ _ _ (@pe_callB _ _ _ _ _ _ _ _ _ (call_reprO (K := K) rfl hr) rfl B.repr b_repr (@pa_cons _ _ _ _ _ (pv 14) pa_nil (by first | rfl | decide | exact Or.inl rfl | exact Or.inr rfl | exact Or.inr (Or.inl rfl) | exact Or.inr (Or.inr rfl) | exact fun _ => rfl | exact Nat.le_of_ble_eq_true rfl)) (by first | rfl | decide | exact Or.inl rfl | exact Or.inr rfl | exact Or.inr (Or.inl rfl) | exact Or.inr (Or.inr rfl) | exact fun _ => rfl | exact Nat.le_of_ble_eq_true rfl) (by first | rfl | decide | exact Or.inl rfl | exact Or.inr rfl | exact Or.inr (Or.inl rfl) | exact Or.inr (Or.inr rfl) | exact fun _ => rfl | exact Nat.le_of_ble_eq_true rfl) (by first | rfl | decide | exact Or.inl rfl | exact Or.inr rfl | exact Or.inr (Or.inl rfl) | exact Or.inr (Or.inr rfl) | exact fun _ => rfl | exact Nat.le_of_ble_eq_true rfl) (by first | rfl | decide | exact Or.inl rfl | exact Or.inr rfl | exact Or.inr (Or.inl rfl) | exact Or.inr (Or.inr rfl) | exact fun _ => rfl | exact Nat.le_of_ble_eq_true rfl)) pa_nil (by first | rfl | decide | exact Or.inl rfl | exact Or.inr rfl | exact Or.inr (Or.inl rfl) | exact Or.inr (Or.inr rfl) | exact fun _ => rfl | exact Nat.le_of_ble_eq_true rfl)) (by first | rfl | decide | exact Or.inl rfl | exact Or.inr rfl | exact Or.inr (Or.inl rfl) | exact Or.inr (Or.inr rfl) | exact fun _ => rfl | exact Nat.le_of_ble_eq_true rfl))) pa_nil (by first | rfl | decide | exact Or.inl rfl | exact Or.inr rfl | exact Or.inr (Or.inl rfl) | exact Or.inr (Or.inr rfl) | exact fun _ => rfl | exact Nat.le_of_ble_eq_true rfl)) (by first | rfl | decide | exact Or.inl rfl | exact Or.inr rfl | exact Or.inr (Or.inl rfl) | exact Or.inr (Or.inr rfl) | exact fun _ => rfl | exact Nat.le_of_ble_eq_true rfl) (by first | rfl | decide | exact Or.inl rfl | exact Or.inr rfl | exact Or.inr (Or.inl rfl) | exact Or.inr (Or.inr rfl) | exact fun _ => rfl | exact Nat.le_of_ble_eq_true rfl) (by first | rfl | decide | exact Or.inl rfl | exact Or.inr rfl | exact Or.inr (Or.inl rfl) | exact Or.inr (Or.inr rfl) | exact fun _ => rfl | exact Nat.le_of_ble_eq_true rfl) (by first | rfl | decide | exact Or.inl rfl | exact Or.inr rfl | exact Or.inr (Or.inl rfl) | exact Or.inr (Or.inr rfl) | exact fun _ => rfl | exact Nat.le_of_ble_eq_true rfl) (by first | rfl | decide | exact Or.inl rfl | exact Or.inr rfl | exact Or.inr (Or.inl rfl) | exact Or.inr (Or.inr rfl) | exact fun _ => rfl | exact Nat.le_of_ble_eq_true rfl)) (by first | rfl | decide | exact Or.inl rfl | exact Or.inr rfl | exact Or.inr (Or.inl rfl) | exact Or.inr (Or.inr rfl) | exact fun _ => rfl | exact Nat.le_of_ble_eq_true rfl)))))))))) (by first | rfl | decide | exact Or.inl rfl | exact Or.inr rfl | exact Or.inr (Or.inl rfl) | exact Or.inr (Or.inr rfl) | exact fun _ => rfl | exact Nat.le_of_ble_eq_true rfl)) (@pss_cons _ _ _ _ _ (@ps_for _ _ _ _ _ _ _ _ PassesOwn.never rfl (@pi_range1 _ _ _ _ _ _ rfl B.range (@pa_cons _ _ _ _ _ pe_int pa_nil (by first | rfl | decide | exact Or.inl rfl | exact Or.inr rfl | exact Or.inr (Or.inl rfl) | exact Or.inr (Or.inr rfl) | exact fun _ => rfl | exact Nat.le_of_ble_eq_true rfl)) (by first | rfl | decide | exact Or.inl rfl | exact Or.inr rfl | exact Or.inr (Or.inl rfl) | exact Or.inr (Or.inr rfl) | exact fun _ => rfl | exact Nat.le_of_ble_eq_true rfl)) (pg_name (i := 10) sc_law.nd rfl (Or.inl rfl)) (@pss_cons _ _ _ _ _ (@ps_set _ _ 15 _ _ _ _ sc_law.nd rfl (Or.inr rfl) (pe_makeC mk_C hr rfl T.mgC (@pa_cons _ _ _ _ _ (@pe_ix _ _ _ _ _ _ _ ix_list (pv 3) (pv 10) (fun _ _ => rfl)) pa_nil (by first | rfl | decide | exact Or.inl rfl | exact Or.inr rfl | exact Or.inr (Or.inl rfl) | exact Or.inr (Or.inr rfl) | exact fun _ => rfl | exact Nat.le_of_ble_eq_true rfl))) (by first | rfl | decide | exact Or.inl rfl | exact Or.inr rfl | exact Or.inr (Or.inl rfl) | exact Or.inr (Or.inr rfl) | exact fun _ => rfl | exact Nat.le_of_ble_eq_true rfl) (by first | rfl | decide | exact Or.inl rfl | exact Or.inr rfl | exact Or.inr (Or.inl rfl) | exact Or.inr (Or.inr rfl) | exact fun _ => rfl | exact Nat.le_of_ble_eq_true rfl)) (@pss_cons _ _ _ _ _ (@ps_if _ _ _ _ _ _ _ _ (@pt_cmpR _ _ _ _ _ _ _ _ (op_neD (K := K) rfl hr) (@pe_compT _ _ _ _ _ _ _ _ _ _ _ _ _ (CSc.of (N' := ["_law_deed", "_law_told_here", "_law_third"]) (sub := [none, none, some 15]) (defScope (top 28)) ["_law_script", "_law_k", "_law_pot_here", "_law_depths", "_law_counters", "_law_kept", "_law_many_in", "_law_out", "_law_seen", "_law_turn", "_law_one", "_law_found", "_law_deed", "_law_told_here", "_law_state_here", "_law_third"] rfl rfl (by decide +kernel) rfl) rfl (@pi_list _ _ _ _ (@pe_ix _ _ _ _ _ _ _ ix_list (pv 5) (pv 10) (fun _ _ => rfl))) (fun _ _ _ _ _ _ => pg_tupK (K := K) 2 rfl rfl (pgs_cons (pg_name (i := 0) (show (["_law_deed", "_law_told_here", "_law_third"] : List Str).Nodup by decide +kernel) rfl (Or.inl rfl) (Or.inr rfl)) (pgs_cons (pg_name (i := 1) (show (["_law_deed", "_law_told_here", "_law_third"] : List Str).Nodup by decide +kernel) rfl (Or.inl rfl) (Or.inr rfl)) pgs_nil)) rfl rfl) (fun _ _ _ _ _ _ => pifs_nil) (fun _ _ _ _ _ _ => (@pe_callC _ _ _ _ _ _ _ _ _ _ c__law_told hr rfl (@pa_cons _ _ _ _ _ (pv 2) (@pa_cons _ _ _ _ _ (pv 0) pa_nil (by first | rfl | decide | exact Or.inl rfl | exact Or.inr rfl | exact Or.inr (Or.inl rfl) | exact Or.inr (Or.inr rfl) | exact fun _ => rfl | exact Nat.le_of_ble_eq_true rfl)) (by first | rfl | decide | exact Or.inl rfl | exact Or.inr rfl | exact Or.inr (Or.inl rfl) | exact Or.inr (Or.inr rfl) | exact fun _ => rfl | exact Nat.le_of_ble_eq_true rfl)) (by first | rfl | decide | exact Or.inl rfl | exact Or.inr rfl | exact Or.inr (Or.inl rfl) | exact Or.inr (Or.inr rfl) | exact fun _ => rfl | exact Nat.le_of_ble_eq_true rfl) (by first | rfl | decide | exact Or.inl rfl | exact Or.inr rfl | exact Or.inr (Or.inl rfl) | exact Or.inr (Or.inr rfl) | exact fun _ => rfl | exact Nat.le_of_ble_eq_true rfl) (by first | rfl | decide | exact Or.inl rfl | exact Or.inr rfl | exact Or.inr (Or.inl rfl) | exact Or.inr (Or.inr rfl) | exact fun _ => rfl | exact Nat.le_of_ble_eq_true rfl))) (by first | rfl | decide | exact Or.inl rfl | exact Or.inr rfl | exact Or.inr (Or.inl rfl) | exact Or.inr (Or.inr rfl) | exact fun _ => rfl | exact Nat.le_of_ble_eq_true rfl)) (@pe_compT _ _ _ _ _ _ _ _ _ _ _ _ _ (CSc.of (N' := ["_law_deed", "_law_told_here"]) (sub := [none, none]) (defScope (top 28)) ["_law_script", "_law_k", "_law_pot_here", "_law_depths", "_law_counters", "_law_kept", "_law_many_in", "_law_out", "_law_seen", "_law_turn", "_law_one", "_law_found", "_law_deed", "_law_told_here", "_law_state_here", "_law_third"] rfl rfl (by decide +kernel) rfl) rfl (@pi_list _ _ _ _ (@pe_ix _ _ _ _ _ _ _ ix_list (pv 5) (pv 10) (fun _ _ => rfl))) (fun _ _ _ _ _ _ => pg_tupK (K := K) 2 rfl rfl (pgs_cons (pg_name (i := 0) (show (["_law_deed", "_law_told_here"] : List Str).Nodup by decide +kernel) rfl (Or.inl rfl) (Or.inr rfl)) (pgs_cons (pg_name (i := 1) (show (["_law_deed", "_law_told_here"] : List Str).Nodup by decide +kernel) rfl (Or.inl rfl) (Or.inr rfl)) pgs_nil)) rfl rfl) (fun _ _ _ _ _ _ => pifs_nil) (fun _ _ _ _ _ _ => (pv 1)) (by first | rfl | decide | exact Or.inl rfl | exact Or.inr rfl | exact Or.inr (Or.inl rfl) | exact Or.inr (Or.inr rfl) | exact fun _ => rfl | exact Nat.le_of_ble_eq_true rfl)) (nomark _)) (@pss_one _ _ _ (@ps_ret _ _ _ _ pe_bl)) pss_nil) (@pss_one _ _ _ (@ps_if _ _ _ _ _ _ _ _ (@pt_cmpR _ _ _ _ _ _ _ _ (op_neD (K := K) rfl hr) (@pe_callC _ _ _ _ _ _ _ _ _ _ c__law_state hr rfl (@pa_cons _ _ _ _ _ (pv 15) pa_nil (by first | rfl | decide | exact Or.inl rfl | exact Or.inr rfl | exact Or.inr (Or.inl rfl) | exact Or.inr (Or.inr rfl) | exact fun _ => rfl | exact Nat.le_of_ble_eq_true rfl)) (by first | rfl | decide | exact Or.inl rfl | exact Or.inr rfl | exact Or.inr (Or.inl rfl) | exact Or.inr (Or.inr rfl) | exact fun _ => rfl | exact Nat.le_of_ble_eq_true rfl) (by first | rfl | decide | exact Or.inl rfl | exact Or.inr rfl | exact Or.inr (Or.inl rfl) | exact Or.inr (Or.inr rfl) | exact fun _ => rfl | exact Nat.le_of_ble_eq_true rfl) (by first | rfl | decide | exact Or.inl rfl | exact Or.inr rfl | exact Or.inr (Or.inl rfl) | exact Or.inr (Or.inr rfl) | exact fun _ => rfl | exact Nat.le_of_ble_eq_true rfl)) (@pe_callC _ _ _ _ _ _ _ _ _ _ c__law_state hr rfl (@pa_cons _ _ _ _ _ (@pe_ix _ _ _ _ _ _ _ ix_list (pv 4) (pv 10) (fun _ _ => rfl)) pa_nil (by first | rfl | decide | exact Or.inl rfl | exact Or.inr rfl | exact Or.inr (Or.inl rfl) | exact Or.inr (Or.inr rfl) | exact fun _ => rfl | exact Nat.le_of_ble_eq_true rfl)) (by first | rfl | decide | exact Or.inl rfl | exact Or.inr rfl | exact Or.inr (Or.inl rfl) | exact Or.inr (Or.inr rfl) | exact fun _ => rfl | exact Nat.le_of_ble_eq_true rfl) (by first | rfl | decide | exact Or.inl rfl | exact Or.inr rfl | exact Or.inr (Or.inl rfl) | exact Or.inr (Or.inr rfl) | exact fun _ => rfl | exact Nat.le_of_ble_eq_true rfl) (by first | rfl | decide | exact Or.inl rfl | exact Or.inr rfl | exact Or.inr (Or.inl rfl) | exact Or.inr (Or.inr rfl) | exact fun _ => rfl | exact Nat.le_of_ble_eq_true rfl)) (nomark _)) (@pss_one _ _ _ (@ps_ret _ _ _ _ pe_bl)) pss_nil)))) (by first | rfl | decide | exact Or.inl rfl | exact Or.inr rfl | exact Or.inr (Or.inl rfl) | exact Or.inr (Or.inr rfl) | exact fun _ => rfl | exact Nat.le_of_ble_eq_true rfl)) (@pss_one _ _ _ (@ps_if _ _ _ _ _ _ _ _ (@pt_val _ _ _ (@pe_callB _ _ _ _ _ _ _ _ _ (call_anyB rfl) rfl g_any b_any (@pa_cons _ _ _ _ _ (@pe_compT _ _ _ _ _ _ _ _ _ _ _ _ _ (CSc.of (N' := ["_law_state_here", "_law_text"]) (sub := [none, none]) (defScope (top 28)) ["_law_script", "_law_k", "_law_pot_here", "_law_depths", "_law_counters", "_law_kept", "_law_many_in", "_law_out", "_law_seen", "_law_turn", "_law_one", "_law_found", "_law_deed", "_law_told_here", "_law_state_here", "_law_third"] rfl rfl (by decide +kernel) rfl) rfl (@pi_list _ _ _ _ (pv 8)) (fun _ _ _ _ _ _ => pg_tupK (K := K) 2 rfl rfl (pgs_cons (pg_name (i := 0) (show (["_law_state_here", "_law_text"] : List Str).Nodup by decide +kernel) rfl (Or.inl rfl) (Or.inr rfl)) (pgs_cons (pg_name (i := 1) (show (["_law_state_here", "_law_text"] : List Str).Nodup by decide +kernel) rfl (Or.inl rfl) (Or.inr rfl)) pgs_nil)) rfl rfl) (fun _ _ _ _ _ _ => pifs_nil) (fun _ _ _ _ _ _ => (@pe_cmpR _ _ _ _ _ _ _ _ op_ne (@pe_callB _ _ _ _ _ _ _ _ _ (call_reprO (K := K) rfl hr) rfl B.repr b_repr (@pa_cons _ _ _ _ _ (pv 0) pa_nil (by first | rfl | decide | exact Or.inl rfl | exact Or.inr rfl | exact Or.inr (Or.inl rfl) | exact Or.inr (Or.inr rfl) | exact fun _ => rfl | exact Nat.le_of_ble_eq_true rfl)) (by first | rfl | decide | exact Or.inl rfl | exact Or.inr rfl | exact Or.inr (Or.inl rfl) | exact Or.inr (Or.inr rfl) | exact fun _ => rfl | exact Nat.le_of_ble_eq_true rfl) (by first | rfl | decide | exact Or.inl rfl | exact Or.inr rfl | exact Or.inr (Or.inl rfl) | exact Or.inr (Or.inr rfl) | exact fun _ => rfl | exact Nat.le_of_ble_eq_true rfl) (by first | rfl | decide | exact Or.inl rfl | exact Or.inr rfl | exact Or.inr (Or.inl rfl) | exact Or.inr (Or.inr rfl) | exact fun _ => rfl | exact Nat.le_of_ble_eq_true rfl) (by first | rfl | decide | exact Or.inl rfl | exact Or.inr rfl | exact Or.inr (Or.inl rfl) | exact Or.inr (Or.inr rfl) | exact fun _ => rfl | exact Nat.le_of_ble_eq_true rfl)) (pv 1) (nomark _))) (by first | rfl | decide | exact Or.inl rfl | exact Or.inr rfl | exact Or.inr (Or.inl rfl) | exact Or.inr (Or.inr rfl) | exact fun _ => rfl | exact Nat.le_of_ble_eq_true rfl)) pa_nil (by first | rfl | decide | exact Or.inl rfl | exact Or.inr rfl | exact Or.inr (Or.inl rfl) | exact Or.inr (Or.inr rfl) | exact fun _ => rfl | exact Nat.le_of_ble_eq_true rfl)) (by first | rfl | decide | exact Or.inl rfl | exact Or.inr rfl | exact Or.inr (Or.inl rfl) | exact Or.inr (Or.inr rfl) | exact fun _ => rfl | exact Nat.le_of_ble_eq_true rfl) (by first | rfl | decide | exact Or.inl rfl | exact Or.inr rfl | exact Or.inr (Or.inl rfl) | exact Or.inr (Or.inr rfl) | exact fun _ => rfl | exact Nat.le_of_ble_eq_true rfl) (by first | rfl | decide | exact Or.inl rfl | exact Or.inr rfl | exact Or.inr (Or.inl rfl) | exact Or.inr (Or.inr rfl) | exact fun _ => rfl | exact Nat.le_of_ble_eq_true rfl) (by first | rfl | decide | exact Or.inl rfl | exact Or.inr rfl | exact Or.inr (Or.inl rfl) | exact Or.inr (Or.inr rfl) | exact fun _ => rfl | exact Nat.le_of_ble_eq_true rfl)) (by first | rfl | decide | exact Or.inl rfl | exact Or.inr rfl | exact Or.inr (Or.inl rfl) | exact Or.inr (Or.inr rfl) | exact fun _ => rfl | exact Nat.le_of_ble_eq_true rfl)) (@pss_one _ _ _ (@ps_ret _ _ _ _ pe_bl)) pss_nil)))))))) (by first | rfl | decide | exact Or.inl rfl | exact Or.inr rfl | exact Or.inr (Or.inl rfl) | exact Or.inr (Or.inr rfl) | exact fun _ => rfl | exact Nat.le_of_ble_eq_true rfl)) (@pss_one _ _ _ (@ps_ret _ _ _ _ pe_bl))), ?_⟩
  have hl : (ns.map V.int).length = ns.length := List.length_map ..
  refine ⟨_, rfl, a, _, rfl, .inl hs.sq, _, _, rfl, _, _, rfl, _, rfl, ?_, ?_, ?_⟩
  · split <;> split <;> omega
  · rw [hl]; split <;> split <;> omega
  refine for_range (fun i σ H' => ∃ (e1 e2 e3 e4 e5 e6 e7 e8 e9 e10 e11 e12 e13 e14 e15 : Option V), σ = [some (.ref a), e1, e2, e3, e4, e5, e6, e7, e8, e9, e10, e11, e12, e13, e14, e15] ∧ Grow [] H H') ⟨_, _, _, _, _, _, _, _, _, _, _, _, _, _, _, rfl, Grow.refl _ _⟩ ?_ ?_
  rotate_left
  · rintro σ H1 _
    exact q _
  rintro i σ H1 hi ⟨e1, e2, e3, e4, e5, e6, e7, e8, e9, e10, e11, e12, e13, e14, e15, rfl, g⟩
  have i63 : i < 1000 := by
    have hi' := hi
    revert hi'
    split <;> split <;> omega
  refine c_asg (fun v H' => ∃ pot, v = .ref pot ∧ H1 pot = none ∧ Grow [] H1 H' ∧ Pot H' pot) (fun Kk hk => ⟨_, rfl, _, rfl, _, _, rfl, a, ns, _, rfl, rfl, g.scr hs, by omega, by omega, fun pot H2 hp g2 pp => hk _ _ ⟨pot, rfl, hp, g2, pp⟩⟩) ?_
  rintro _ H2 ⟨pot, rfl, np2, g2, pp2⟩
  refine c_asg (fun v H' => ∃ (ld : Addr) (k : Nat → Nat), v = .ref ld ∧ (∀ j, k j ≤ 3) ∧ Pot H' pot ∧ H' ld = some (.lst (two fun j => .int (k j : Nat))) ∧ Tk H1 [ld, pot] H') (fun Kk hk => ⟨_, rfl, _, _, rfl, pot, 4, rfl, rfl, pp2, by decide, by decide, fun k0 H3 l3 u3 g3 pp3 => ⟨_, rfl, _, _, rfl, pot, 4, rfl, rfl, pp3, by decide, by decide, fun k1 H4 l4 u4 g4 pp4 => ⟨szl rfl, fun ld hld => ?_⟩⟩⟩) ?_
  · obtain ⟨k0, rfl⟩ : ∃ k : Nat, k0 = k := ⟨k0.toNat, by omega⟩
    obtain ⟨k1, rfl⟩ : ∃ k : Nat, k1 = k := ⟨k1.toNat, by omega⟩
    have gn := Grow.new (m := []) hld (.lst [V.int k0, .int k1])
    have G : Grow [pot] H1 H4 := g2.wk.trans (g3.trans g4)
    have t1 : Tk H1 [pot] H4 := ⟨List.nodup_cons.mpr ⟨by simp, List.nodup_nil⟩, fun b hb => pot_ne pp4 b hb, fun b hb => by rw [List.mem_singleton.mp hb]; exact np2, G.shrink np2⟩
    exact hk _ _ ⟨ld, fun j => if j = 0 then k0 else k1, rfl, fun j => by show (if j = 0 then k0 else k1) ≤ 3; split <;> omega, pp4.grow gn, upd_same, t1.new hld _⟩
  clear g2 pp2
  rintro _ H4 ⟨ld, k, rfl, k3, pp4, hld, t4⟩
  refine c_asg (fun v H' => ∃ (lcs c1 u1 t1 o1 g1 c0 u0 t0 o0 g0 : Addr), v = .ref lcs ∧ Grow [] H4 H' ∧ CtrAt K C (k 0) c0 u0 t0 o0 g0 H' (stZ (k 0)) ∧ CtrAt K C (k 1) c1 u1 t1 o1 g1 H' (stZ (k 1)) ∧ H' lcs = some (.lst [.ref c0, .ref c1]) ∧ Tk H1 [lcs, c1, u1, t1, o1, g1, c0, u0, t0, o0, g0, ld, pot] H') (fun Kk hk => ?_) ?_
  · refine ⟨_, rfl, ld, _, 0, _, rfl, rfl, SqL.of hld, atI_nat (j := 0) rfl, fun c0 dx np nd ndp => ⟨_, _, rfl, c0, dx, k 0, rfl, rfl, k3 0, upd_same, fun u0 t0 o0 g0 H5 g5 nu nt nc ng hc5 => ⟨rfl, ?_⟩⟩⟩
    have gi : Grow [] H4 (upd (upd H4 dx (.own c0)) c0 (.ins C dx [])) := (Grow.new nd _).trans (Grow.new (by rw [upd_ne (Ne.symm ndp)]; exact np) _)
    have nu := gi.free (by simp) nu
    have nt := gi.free (by simp) nt
    have nc := gi.free (by simp) nc
    have ng := gi.free (by simp) ng
    have G5 : Grow [] H4 H5 := (gi.wk.trans g5).shrink np
    have t5 := t4.ctr hc5 G5 np nu nt nc ng
    clear gi g5 nu nt nc ng
    refine ⟨_, rfl, ld, _, 1, _, rfl, rfl, SqL.of (G5.keep _ _ (by simp) hld), atI_nat (j := 1) rfl, fun c1 dx1 np1 nd1 ndp1 => ⟨_, _, rfl, c1, dx1, k 1, rfl, rfl, k3 1, upd_same, fun u1 t1 o1 g1 H6 g6 nu nt nc ng hc6 => ⟨rfl, szl rfl, fun lcs hlcs => ?_⟩⟩⟩
    have gi : Grow [] H5 (upd (upd H5 dx1 (.own c1)) c1 (.ins C dx1 [])) := (Grow.new nd1 _).trans (Grow.new (by rw [upd_ne (Ne.symm ndp1)]; exact np1) _)
    have nu := gi.free (by simp) nu
    have nt := gi.free (by simp) nt
    have nc := gi.free (by simp) nc
    have ng := gi.free (by simp) ng
    have G6 : Grow [] H5 H6 := (gi.wk.trans g6).shrink np1
    have t6 := t5.ctr hc6 G6 np1 nu nt nc ng
    clear gi g6 nu nt nc ng
    have gn := Grow.new (m := []) hlcs (.lst [V.ref c0, .ref c1])
    exact hk _ _ ⟨lcs, c1, u1, t1, o1, g1, c0, u0, t0, o0, g0, rfl, G5.trans (G6.trans gn), hc5.grow (G6.trans gn) (by simp) (by simp) (by simp) (by simp) (by simp), hc6.grow gn (by simp) (by simp) (by simp) (by simp) (by simp), upd_same, t6.new hlcs _⟩
  rintro _ H6 ⟨lcs, c1, u1, t1, o1, g1, c0, u0, t0, o0, g0, rfl, G6, hc0, hc1, hlcs, t6⟩
  have pp6 := pp4.grow G6
  have hld6 := G6.keep _ _ (by simp) hld
  clear pp4 hld t4 G6
  refine ⟨szl rfl, fun k0 hk0 => ⟨szl rfl, fun k1 hk1 => ⟨szl rfl, fun lk hlk => ⟨szl rfl, fun lm hlm => ⟨szl rfl, fun p0 hp0 => ⟨szl rfl, fun p1 hp1 => ⟨szl rfl, fun lo hlo => ⟨szl rfl, fun ls hls => ⟨szl rfl, fun tt htt => ⟨tt, _, rfl, SqT.of upd_same, rfl, ?_⟩⟩⟩⟩⟩⟩⟩⟩⟩⟩
  obtain ⟨Φ, hΦ, rfl, rfl, rfl, rfl, rfl, rfl, rfl, fr, G7, I7⟩ : ∃ Φ : Nat → Addr, InjF Φ ∧ pot = Φ 0 ∧ ld = Φ 17 ∧ lcs = Φ 18 ∧ lk = Φ 19 ∧ lm = Φ 15 ∧ lo = Φ 20 ∧ ls = Φ 16 ∧ (∀ b ∈ MF Φ, H1 b = none) ∧ Grow [] H1 (upd (upd (upd (upd (upd (upd (upd (upd (upd H6 k0 (.lst [])) k1 (.lst [])) lk (.lst [V.ref k0, V.ref k1])) lm (.lst [V.int 0, V.int 0])) p0 (.lst [])) p1 (.lst [])) lo (.lst [V.ref p0, V.ref p1])) ls (.lst [])) tt (.tup [V.ref lk, V.ref lm, V.ref lo, V.ref ls])) ∧ I88 K C Φ k (fun _ => ⟨[], [], []⟩) [] 0 (upd (upd (upd (upd (upd (upd (upd (upd (upd H6 k0 (.lst [])) k1 (.lst [])) lk (.lst [V.ref k0, V.ref k1])) lm (.lst [V.int 0, V.int 0])) p0 (.lst [])) p1 (.lst [])) lo (.lst [V.ref p0, V.ref p1])) ls (.lst [])) tt (.tup [V.ref lk, V.ref lm, V.ref lo, V.ref ls])) := by
    have q9 := Grow.new (m := []) htt (.tup [V.ref lk, V.ref lm, V.ref lo, V.ref ls])
    have q8 := (Grow.new (m := []) hls (.lst [])).trans q9
    have q7 := (Grow.new (m := []) hlo (.lst [V.ref p0, V.ref p1])).trans q8
    have q6 := (Grow.new (m := []) hp1 (.lst [])).trans q7
    have q5 := (Grow.new (m := []) hp0 (.lst [])).trans q6
    have q4 := (Grow.new (m := []) hlm (.lst [V.int 0, V.int 0])).trans q5
    have q3 := (Grow.new (m := []) hlk (.lst [V.ref k0, V.ref k1])).trans q4
    have q2 := (Grow.new (m := []) hk1 (.lst [])).trans q3
    have q1 := (Grow.new (m := []) hk0 (.lst [])).trans q2
    have tz := ((((((((t6.new hk0 (.lst [])).new hk1 (.lst [])).new hlk (.lst [V.ref k0, V.ref k1])).new hlm (.lst [V.int 0, V.int 0])).new hp0 (.lst [])).new hp1 (.lst [])).new hlo (.lst [V.ref p0, V.ref p1])).new hls (.lst [])).grow q9
    have z0 := hc0.grow q1 (by simp) (by simp) (by simp) (by simp) (by simp)
    have z1 := hc1.grow q1 (by simp) (by simp) (by simp) (by simp) (by simp)
    refine ⟨_, injF rfl tz.nd, rfl, rfl, rfl, rfl, rfl, rfl, rfl, fun b hb => tz.fr b (memF rfl b hb), tz.gr, pp6.grow q1, fun j hj => ?_, q5.keep _ _ (by simp) upd_same, q9.keep _ _ (by simp) upd_same, fun z hz => absurd hz (by simp), q1.keep _ _ (by simp) hld6, q1.keep _ _ (by simp) hlcs, q4.keep _ _ (by simp) upd_same, q8.keep _ _ (by simp) upd_same, Nat.zero_le _, fun j hj => Nat.zero_le _⟩
    rcases (by omega : j = 0 ∨ j = 1) with rfl | rfl
    · exact ⟨z0, q2.keep _ _ (by simp) upd_same, q6.keep _ _ (by simp) upd_same, .nil, OutOk.base⟩
    · exact ⟨z1, q3.keep _ _ (by simp) upd_same, q7.keep _ _ (by simp) upd_same, .nil, OutOk.base⟩
  clear hls hlo hlk hlm hc0 hc1 hk0 hk1 np2 pp6 hld6 hlcs t6 hp0 hp1 htt
  generalize (upd (upd (upd (upd (upd (upd (upd (upd (upd H6 k0 (.lst [])) k1 (.lst [])) (Φ 19) (.lst [V.ref k0, V.ref k1])) (Φ 15) (.lst [V.int 0, V.int 0])) p0 (.lst [])) p1 (.lst [])) (Φ 20) (.lst [V.ref p0, V.ref p1])) (Φ 16) (.lst [])) tt (.tup [V.ref (Φ 19), V.ref (Φ 15), V.ref (Φ 20), V.ref (Φ 16)])) = H7 at G7 I7 ⊢
  have FR : ∀ {H' H'' : Hp}, Grow [] H1 H' → Grow (MF Φ) H' H'' → Grow [] H1 H'' := fun g g' => (g.wk.trans g').fresh fr
  refine ⟨_, _, rfl, _, _, rfl, _, _, rfl, _, _, rfl, rfl, _, rfl, _, _, rfl, Φ 0, 121, rfl, rfl, I7.pot, by decide, by decide, fun n0 H8 l8 u8 g8 pp8 => ?_⟩
  have I8 := I7.pots hΦ g8 pp8
  have G8 := FR G7 (g8.mono (by intro b hb; rw [List.mem_singleton.mp hb]; exact mem_MF (by decide)))
  refine ⟨_, rfl, by omega, by omega, ?_⟩
  refine for_range (fun n σ H' => ∃ (e9 e10 e11 e12 e13 e14 e15 : Option V) (S : Nat → S88) (zs : List V), σ = [some (.ref a), some (.int (0 + (i : Int))), some (.ref (Φ 0)), some (.ref (Φ 17)), some (.ref (Φ 18)), some (.ref (Φ 19)), some (.ref (Φ 15)), some (.ref (Φ 20)), some (.ref (Φ 16)), e9, e10, e11, e12, e13, e14, e15] ∧ Grow [] H1 H' ∧ I88 K C Φ k S zs n H') ⟨_, _, _, _, _, _, _, _, _, rfl, G8, I8⟩ ?_ ?_
  · rintro n σ H9 hn ⟨e9, e10, e11, e12, e13, e14, e15, S, zs, rfl, G9, I9⟩
    clear I7 I8 G7 G8
    have M0 : ∀ b ∈ [Φ 0], b ∈ MF Φ := by intro b hb; rw [List.mem_singleton.mp hb]; exact mem_MF (by decide)
    refine c_asg (fun v H' => ∃ j : Nat, v = .int j ∧ j < 2 ∧ Grow [Φ 0] H9 H' ∧ Pot H' (Φ 0)) (fun Kk hk => ⟨_, rfl, _, _, rfl, Φ 0, 2, rfl, rfl, I9.pot, by decide, by decide, fun n H' u v g pp' => hk _ _ ⟨n.toNat, congrArg V.int (by omega), by omega, g, pp'⟩⟩) ?_
    rintro _ Ha ⟨j, rfl, hj, ga, ppa⟩
    have Ia := I9.pots hΦ ga ppa
    have Ga := FR G9 (ga.mono M0)
    clear I9 G9 ga ppa M0
    obtain ⟨ct, kp, ko, kk, oo⟩ := Ia.c j hj
    have gt := runS_gt (k3 j) (ws := (S j).ws) Gt88.base
    refine c_asg (fun v H' => ∃ (r dd : Addr) (w : Nat) (u f : V) (d : PyData), v = .ref r ∧ w ≤ 1 ∧ Grow [Φ 0, Φ (2 + 7 * j), Φ (3 + 7 * j), Φ (4 + 7 * j), Φ (5 + 7 * j)] Ha H' ∧ Pot H' (Φ 0) ∧ CtrAt K C (k j) (Φ (1 + 7 * j)) (Φ (2 + 7 * j)) (Φ (3 + 7 * j)) (Φ (4 + 7 * j)) (Φ (5 + 7 * j)) H' (stepD (k j) (runS (k j) (stZ (k j)) (S j).ws) w d).2 ∧ SqT K H' r [.ref dd, f] ∧ SqT K H' dd [.int w, u] ∧ Od K (MF Φ) H' u d ∧ RsM K (MF Φ) H' f (stepD (k j) (runS (k j) (stZ (k j)) (S j).ws) w d).1) (fun Kk hk => ?_) ?_
    · exact ⟨_, rfl, _, rfl, _, rfl, Φ 18, _, j, _, rfl, rfl, SqL.of Ia.lc, atI_nat (two_get hj), _, rfl, _, rfl, Φ 17, _, j, _, rfl, rfl, SqL.of Ia.ld, atI_nat (two_get hj), _, _, rfl, rfl, shlOne (Nat.le_trans (k3 j) (by decide)), _, rfl, _, rfl, Φ 15, _, j, _, rfl, rfl, SqL.of Ia.mi, atI_nat (two_get hj), _, rfl, _, rfl, Φ 20, _, j, _, rfl, rfl, SqL.of Ia.lo, atI_nat (two_get hj), _, _, _, _, _, rfl, Φ 0, Φ (1 + 7 * j), Φ (2 + 7 * j), Φ (3 + 7 * j), Φ (4 + 7 * j), Φ (5 + 7 * j), Φ (7 + 7 * j), k j, _, (S j).os, MF Φ, Ia.occ, sub88 hj, rfl, Ia.pot, rfl, k3 j, ct, gt.gs.gd, congrArg V.int one_shl, rfl, rfl, ko, oo, ap88 hΦ hj, hΦ.ne (by omega) (by omega) (by decide), fun r dd w u f d H' w1 g pp hc s1 s2 od rs fr => hk _ _ ⟨r, dd, w, u, f, d, rfl, w1, g, pp, hc, s1, s2, od, rs, fr⟩⟩
    rintro _ Hb ⟨r, dd, w, u, f, d, rfl, w1, gb, ppb, ctb, s1b, s2b, odb, rsb⟩
    have kpb := gb.keep _ _ (out88 hΦ (by omega) (by omega) hj) kp
    have kob := gb.keep _ _ (out88 hΦ (by omega) (by omega) hj) ko
    have mib := gb.keep _ _ (out88 hΦ (by omega) (by omega) hj) Ia.mi
    have seb := gb.keep _ _ (out88 hΦ (by omega) (by omega) hj) Ia.se
    have lkb := gb.keep _ _ (out88 hΦ (by omega) (by omega) hj) Ia.lk
    have lcb := gb.keep _ _ (out88 hΦ (by omega) (by omega) hj) Ia.lc
    have lob := gb.keep _ _ (out88 hΦ (by omega) (by omega) hj) Ia.lo
    have nx := Ia.nx j hj
    have nz := Ia.nz
    have s121 : 121 < sizeLine := by decide
    have hix : ixN 2 (j : Int) = some j := ix_two hj
    refine ⟨_, rfl, _, rfl, iteF' (decide_eq_false fun z => nomatch z) ?_⟩
    refine ⟨_, rfl, _, rfl, Φ 19, _, j, _, rfl, rfl, SqL.of lkb, atI_nat (two_get hj), .inl ⟨rfl, _, SqL.of kpb⟩, _, rfl, Φ (6 + 7 * j), (S j).xs, _, rfl, rfl, kpb, by omega, ?_⟩
    have gc : Grow [Φ (6 + 7 * j)] Hb (upd Hb (Φ (6 + 7 * j)) (.lst ((S j).xs ++ [.ref r]))) := Grow.set kpb (by simp) _
    have kpc : upd Hb (Φ (6 + 7 * j)) (.lst ((S j).xs ++ [.ref r])) (Φ (6 + 7 * j)) = some (.lst ((S j).xs ++ [.ref r])) := upd_same
    generalize upd Hb (Φ (6 + 7 * j)) (.lst ((S j).xs ++ [.ref r])) = Hc at gc kpc ⊢
    have o6 : ∀ i, i < 21 → i ≠ 6 + 7 * j → Φ i ∉ [Φ (6 + 7 * j)] := fun i hi h => by simpa using hΦ.ne h hi (by omega)
    have gcm : Grow (MF Φ) Hb Hc := gc.mono (by intro b hb; rw [List.mem_singleton.mp hb]; exact mem_MF (by omega))
    have s1c := gc.sqT s1b
    have s2c := gc.sqT s2b
    have odc := odb.grow gcm
    have rsc := rsb.grow gcm
    have mic := gc.keep _ _ (o6 15 (by decide) (by omega)) mib
    have koc := gc.keep _ _ (o6 (7 + 7 * j) (by omega) (by omega)) kob
    have lcc := gc.keep _ _ (o6 18 (by decide) (by omega)) lcb
    have loc := gc.keep _ _ (o6 20 (by decide) (by omega)) lob
    have sec := gc.keep _ _ (o6 16 (by decide) (by omega)) seb
    have ctc := ctb.grow gc (o6 _ (by omega) (by omega)) (o6 _ (by omega) (by omega)) (o6 _ (by omega) (by omega)) (o6 _ (by omega) (by omega)) (o6 _ (by omega) (by omega))
    have ppc : Pot Hc (Φ 0) := by
      obtain ⟨v0, v1, hv, v2⟩ := ppb
      exact ⟨v0, v1, gc.keep _ _ (o6 0 (by decide) (by omega)) hv, v2⟩
    refine ⟨_, rfl, r, _, rfl, s1c, rfl, _, _, rfl, _, _, rfl, rfl, ?_⟩
    have ol : (S j).os.length ≤ 40 := by rw [oo.l]; exact gt.gs.gd.g
    clear kpb kob mib seb lkb lcb lob s1b s2b odb rsb ctb ppb ct kp ko kk oo
    refine c_nx ?_
    refine c_if (fun σ H' => σ = [some (.ref a), some (.int (0 + (i : Int))), some (.ref (Φ 0)), some (.ref (Φ 17)), some (.ref (Φ 18)), some (.ref (Φ 19)), some (.ref (Φ 15)), some (.ref (Φ 20)), some (.ref (Φ 16)), some (.int (0 + (n : Int))), some (.int j), some (.ref r), some (.ref dd), some f, e14, e15] ∧ Grow [Φ 15, Φ (7 + 7 * j)] Hc H' ∧ H' (Φ 15) = some (.lst (two fun i => ln (k i) (nxt k S j w d (.ref r) i).ws)) ∧ H' (Φ (7 + 7 * j)) = some (.lst (natsV (outStep (S j).os w d (stepD (k j) (runS (k j) (stZ (k j)) (S j).ws) w d).1)))) ?_ ?_
    · rintro σ Hd ⟨rfl, gd, mid, kod⟩
      have od7 : ∀ i, i < 21 → i ≠ 15 → i ≠ 7 + 7 * j → Φ i ∉ [Φ 15, Φ (7 + 7 * j)] := fun i hi h1 h2 => hΦ.out (is := [15, 7 + 7 * j]) hi fun x hx => by
        simp only [List.mem_cons, List.not_mem_nil, or_false] at hx
        omega
      have gdm : Grow (MF Φ) Hc Hd := gd.mono (sub_MF (is := [15, 7 + 7 * j]) fun x hx => by
        simp only [List.mem_cons, List.not_mem_nil, or_false] at hx
        omega)
      have ctd := ctc.grow gd (od7 _ (by omega) (by omega) (by omega)) (od7 _ (by omega) (by omega) (by omega)) (od7 _ (by omega) (by omega) (by omega)) (od7 _ (by omega) (by omega) (by omega)) (od7 _ (by omega) (by omega) (by omega))
      have lcd := gd.keep _ _ (od7 18 (by decide) (by decide) (by omega)) lcc
      have gt' := Gt88.step (w := w) (d := d) (k3 j) gt
      refine c_asg (fun v H' => Grow [] Hd H' ∧ ∀ m, Od K m H' v (stD (stepD (k j) (runS (k j) (stZ (k j)) (S j).ws) w d).2)) (fun Kk hk => ⟨_, rfl, _, rfl, Φ 18, _, j, _, rfl, rfl, SqL.of lcd, atI_nat (two_get hj), _, rfl, Φ (1 + 7 * j), Φ (2 + 7 * j), Φ (3 + 7 * j), Φ (4 + 7 * j), Φ (5 + 7 * j), k j, _, rfl, ctd, gt'.gs.gd, fun y H' g o => hk _ _ ⟨g, o⟩⟩) ?_
      rintro y He ⟨ge, oy⟩
      obtain ⟨sh1, sh2, sh3⟩ := st_shows (k3 j) gt'
      have see := ge.keep _ _ (by simp) (gd.keep _ _ (od7 16 (by decide) (by decide) (by omega)) sec)
      refine ⟨_, rfl, .inl ⟨rfl, _, SqL.of see⟩, _, rfl, _, rfl, y, _, [], rfl, oy [], sh1, sh2, sh3, szl rfl, fun t ht => ?_⟩
      have gf := Grow.new (m := []) ht (.tup [y, .str (stD (stepD (k j) (runS (k j) (stZ (k j)) (S j).ws) w d).2).shown])
      have stf : SqT K (upd He t (.tup [y, .str (stD (stepD (k j) (runS (k j) (stZ (k j)) (S j).ws) w d).2).shown])) t [y, .str (stD (stepD (k j) (runS (k j) (stZ (k j)) (S j).ws) w d).2).shown] := SqT.of upd_same
      generalize upd He t (.tup [y, .str (stD (stepD (k j) (runS (k j) (stZ (k j)) (S j).ws) w d).2).shown]) = Hf at gf stf ⊢
      have gef := ge.trans gf
      have sef := gf.keep _ _ (by simp) see
      refine ⟨Φ 16, zs, _, rfl, rfl, sef, by omega, ?_⟩
      have gg : Grow [Φ 16] Hf (upd Hf (Φ 16) (.lst (zs ++ [.ref t]))) := Grow.set sef (by simp) _
      have seg : upd Hf (Φ 16) (.lst (zs ++ [.ref t])) (Φ 16) = some (.lst (zs ++ [.ref t])) := upd_same
      generalize upd Hf (Φ 16) (.lst (zs ++ [.ref t])) = Hg at gg seg ⊢
      have o16 : ∀ i, i < 16 → Φ i ∉ [Φ 16] := fun i hi => by simpa using hΦ.ne (show i ≠ 16 by omega) (by omega) (by decide)
      have ggm : Grow (MF Φ) Hf Hg := gg.mono (by intro b hb; rw [List.mem_singleton.mp hb]; exact mem_MF (by decide))
      have gcg : Grow (MF Φ) Hc Hg := gdm.trans (gef.wk.trans ggm)
      have G : Grow ((mj j).map Φ) Ha Hg := by
        have m1 : ∀ b ∈ [Φ 0, Φ (2 + 7 * j), Φ (3 + 7 * j), Φ (4 + 7 * j), Φ (5 + 7 * j)], b ∈ (mj j).map Φ := by intro b hb; simp only [mj, List.map_cons, List.map_nil, List.mem_cons, List.not_mem_nil, or_false] at hb ⊢; rcases hb with h | h | h | h | h <;> simp only [h, true_or, or_true]
        have m2 : ∀ b ∈ [Φ (6 + 7 * j)], b ∈ (mj j).map Φ := by intro b hb; simp only [mj, List.map_cons, List.map_nil, List.mem_cons, List.not_mem_nil, or_false] at hb ⊢; simp only [hb, true_or, or_true]
        have m3 : ∀ b ∈ [Φ 15, Φ (7 + 7 * j)], b ∈ (mj j).map Φ := by intro b hb; simp only [mj, List.map_cons, List.map_nil, List.mem_cons, List.not_mem_nil, or_false] at hb ⊢; rcases hb with h | h <;> simp only [h, true_or, or_true]
        have m4 : ∀ b ∈ [Φ 16], b ∈ (mj j).map Φ := by intro b hb; simp only [mj, List.map_cons, List.map_nil, List.mem_cons, List.not_mem_nil, or_false] at hb ⊢; simp only [hb, true_or, or_true]
        exact (gb.mono m1).trans ((gc.mono m2).trans ((gd.mono m3).trans (gef.wk.trans (gg.mono m4))))
      have ppg : Pot Hg (Φ 0) := by
        obtain ⟨v0, v1, hv, v2⟩ := ppc
        exact ⟨v0, v1, gg.keep _ _ (o16 0 (by decide)) (gef.keep _ _ (by simp) (gd.keep _ _ (od7 0 (by decide) (by decide) (by omega)) hv)), v2⟩
      have ctg := (ctd.grow gef (by simp) (by simp) (by simp) (by simp) (by simp)).grow gg (o16 _ (by omega)) (o16 _ (by omega)) (o16 _ (by omega)) (o16 _ (by omega)) (o16 _ (by omega))
      refine ⟨_, _, _, _, _, _, _, nxt k S j w d (.ref r), zs ++ [.ref t], rfl, FR Ga (G.mono (sub_MF (mj_lt hj))), ?_⟩
      exact I88.next hΦ Ia hj G ppg ctg w1 (gg.keep _ _ (o16 _ (by omega)) (gef.keep _ _ (by simp) (gd.keep _ _ (od7 _ (by omega) (by omega) (by omega)) kpc))) (gg.keep _ _ (o16 _ (by omega)) (gef.keep _ _ (by simp) kod)) (gcg.sqT s1c) (gcg.sqT s2c) (odc.grow gcg) (rsc.grow gcg) (gg.keep _ _ (o16 _ (by omega)) (gef.keep _ _ (by simp) mid)) seg ⟨t, y, k j, _, rfl, gg.sqT stf, ((oy _).grow gf.wk).grow ggm, k3 j, gt'⟩
    intro hr
    have cs : (∃ lf ys, f = .ref lf ∧ SqL K Hc lf ys ∧ ∀ v, (stepD (k j) (runS (k j) (stZ (k j)) (S j).ws) w d).1 ≠ .val v) ∨ (f = .non ∧ (stepD (k j) (runS (k j) (stZ (k j)) (S j).ws) w d).1 = .val .non) ∨ ∃ m : Nat, f = .int m ∧ (stepD (k j) (runS (k j) (stZ (k j)) (S j).ws) w d).1 = .val (.int m) := by
      have q1 := rsc.1
      cases hrr : (stepD (k j) (runS (k j) (stZ (k j)) (S j).ws) w d).1 with
      | val v =>
        rw [hrr] at q1
        obtain rfl : f = v := q1
        rcases step_val hrr with rfl | ⟨m, rfl⟩
        · exact .inr (.inl ⟨rfl, rfl⟩)
        · exact .inr (.inr ⟨m, rfl, rfl⟩)
      | side => rw [hrr] at q1; obtain ⟨l, e, h⟩ := q1; exact .inl ⟨l, _, e, h, fun v z => nomatch z⟩
      | many => rw [hrr] at q1; obtain ⟨l, e, h⟩ := q1; exact .inl ⟨l, _, e, h, fun v z => nomatch z⟩
      | tok => rw [hrr] at q1; obtain ⟨l, e, h⟩ := q1; exact .inl ⟨l, _, e, h, fun v z => nomatch z⟩
    have skip : (w = 1 ∨ ∀ v, (stepD (k j) (runS (k j) (stZ (k j)) (S j).ws) w d).1 ≠ .val v) → outStep (S j).os w d (stepD (k j) (runS (k j) (stZ (k j)) (S j).ws) w d).1 = (S j).os → Grow [Φ 15, Φ (7 + 7 * j)] Hc Hc ∧ Hc (Φ 15) = some (.lst (two fun i => ln (k i) (nxt k S j w d (.ref r) i).ws)) ∧ Hc (Φ (7 + 7 * j)) = some (.lst (natsV (outStep (S j).os w d (stepD (k j) (runS (k j) (stZ (k j)) (S j).ws) w d).1))) := fun h e => ⟨Grow.refl _ _, by rw [← mi_same w1 h]; exact mic, by rw [e]; exact koc⟩
    refine ⟨_, rfl, dd, _, 0, _, rfl, rfl, s2c, atI_nat (j := 0) rfl, rfl, _, rfl, ?_⟩
    rcases (by omega : w = 0 ∨ w = 1) with rfl | rfl
    · refine iteT' (decide_eq_true rfl) ?_
      have e0 : outStep (S j).os 0 d (stepD (k j) (runS (k j) (stZ (k j)) (S j).ws) 0 d).1 = (S j).os := outStep_z
      have up : ∀ v, (stepD (k j) (runS (k j) (stZ (k j)) (S j).ws) 0 d).1 = .val v → Grow [Φ 15, Φ (7 + 7 * j)] Hc (upd Hc (Φ 15) (.lst ((two fun i => ln (k i) (S i).ws).set j (.int (((runS (k j) (stZ (k j)) (S j).ws).toks.length : Int) + 1))))) ∧ upd Hc (Φ 15) (.lst ((two fun i => ln (k i) (S i).ws).set j (.int (((runS (k j) (stZ (k j)) (S j).ws).toks.length : Int) + 1)))) (Φ 15) = some (.lst (two fun i => ln (k i) (nxt k S j 0 d (.ref r) i).ws)) ∧ upd Hc (Φ 15) (.lst ((two fun i => ln (k i) (S i).ws).set j (.int (((runS (k j) (stZ (k j)) (S j).ws).toks.length : Int) + 1)))) (Φ (7 + 7 * j)) = some (.lst (natsV (outStep (S j).os 0 d (stepD (k j) (runS (k j) (stZ (k j)) (S j).ws) 0 d).1))) := fun v h => ⟨Grow.set mic (by simp) _, by rw [upd_same, mi_up hj h], by rw [upd_ne (hΦ.ne (by omega) (by omega) (by decide)), e0]; exact koc⟩
      rcases cs with ⟨lf, ys, rfl, sf, nv⟩ | ⟨rfl, hv⟩ | ⟨m, rfl, hv⟩
      · refine ⟨_, rfl, _, _, _, _, rfl, .inr (.inl ⟨rfl, _, sf⟩), kit_lst (d := .list []), _, rfl, iteF ?_⟩
        refine ⟨_, rfl, dd, _, 0, _, rfl, rfl, s2c, atI_nat (j := 0) rfl, rfl, _, rfl, iteF' (vint_ne (by decide)) (iteF ?_)⟩
        exact hr _ _ ⟨rfl, skip (.inr nv) e0⟩
      · refine ⟨_, rfl, _, _, _, _, rfl, rfl, kit_lst (d := .none), _, rfl, iteT ?_⟩
        refine ⟨_, rfl, _, rfl, Φ 15, _, j, _, rfl, rfl, SqL.of mic, atI_nat (two_get hj), _, _, rfl, rfl, _, rfl, _, rfl, Φ 15, _, j, j, rfl, rfl, mic, hix, hr _ _ ⟨rfl, up _ hv⟩⟩
      · refine ⟨_, rfl, _, _, _, _, rfl, rfl, kit_lst (d := .int m), _, rfl, iteT ?_⟩
        refine ⟨_, rfl, _, rfl, Φ 15, _, j, _, rfl, rfl, SqL.of mic, atI_nat (two_get hj), _, _, rfl, rfl, _, rfl, _, rfl, Φ 15, _, j, j, rfl, rfl, mic, hix, hr _ _ ⟨rfl, up _ hv⟩⟩
    refine iteF' (vint_ne (by decide)) (iteF ?_)
    refine ⟨_, rfl, dd, _, 0, _, rfl, rfl, s2c, atI_nat (j := 0) rfl, rfl, _, rfl, iteT' (decide_eq_true rfl) ?_⟩
    rcases cs with ⟨lf, ys, rfl, sf, nv⟩ | ⟨rfl, hv⟩ | ⟨m, rfl, hv⟩
    · refine ⟨_, rfl, _, rfl, iteT' rfl ?_⟩
      refine ⟨_, rfl, _, _, _, _, rfl, .inr (.inl ⟨rfl, _, sf⟩), kit_lst (d := .list []), _, rfl, iteF ?_⟩
      exact hr _ _ ⟨rfl, skip (.inl rfl) (outStep_l nv)⟩
    · refine ⟨_, rfl, _, rfl, iteF' rfl (iteF ?_)⟩
      exact hr _ _ ⟨rfl, skip (.inl rfl) (by rw [hv]; exact outStep_n)⟩
    · obtain ⟨t, rfl⟩ := step_out hv
      obtain rfl := odc.inv_int
      refine ⟨_, rfl, _, rfl, iteT' rfl ?_⟩
      refine ⟨_, rfl, _, _, _, _, rfl, rfl, kit_lst (d := .int m), _, rfl, iteT ?_⟩
      refine ⟨_, rfl, _, rfl, Φ 20, _, j, _, rfl, rfl, SqL.of loc, atI_nat (two_get hj), .inl ⟨rfl, _, SqL.of koc⟩, _, rfl, dd, _, 1, _, rfl, rfl, s2c, atI_nat (j := 1) rfl, Φ (7 + 7 * j), _, _, rfl, rfl, koc, by rw [natsV_len]; omega, hr _ _ ⟨rfl, Grow.set koc (by simp) _, ?_, ?_⟩⟩
      · rw [upd_ne (hΦ.ne (by omega) (by decide) (by omega)), ← mi_same w1 (.inl rfl)]; exact mic
      · rw [upd_same, hv]
        show some (HO.lst (natsV (S j).os ++ [V.int t])) = some (.lst (natsV ((S j).os ++ [t])))
        unfold natsV
        rw [List.map_append]; rfl
  rintro σ H9 ⟨e9, e10, e11, e12, e13, e14, e15, S, zs, rfl, G9, I9⟩
  clear I7 I8 G7 G8
  have s121 : 121 < sizeLine := by decide
  refine ⟨_, rfl, by decide, by decide, ?_⟩
  refine for_range (fun n σ H' => ∃ (e10 e11 e12 e13 e14 e15 : Option V), σ = [some (.ref a), some (.int (0 + (i : Int))), some (.ref (Φ 0)), some (.ref (Φ 17)), some (.ref (Φ 18)), some (.ref (Φ 19)), some (.ref (Φ 15)), some (.ref (Φ 20)), some (.ref (Φ 16)), e9, e10, e11, e12, e13, e14, e15] ∧ Grow [] H9 H') ⟨_, _, _, _, _, _, rfl, Grow.refl _ _⟩ ?_ ?_
  · rintro j σ Ha hj ⟨e10, e11, e12, e13, e14, e15, rfl, ga⟩
    have hj : j < 2 := hj
    have ej : (0 + (j : Int)) = (j : Int) := by omega
    rw [ej]
    have Ia := I9.grow hΦ ga
    obtain ⟨ct, kp, ko, kk, oo⟩ := Ia.c j hj
    have gt : ∀ ws, Gt88 (k j) (runS (k j) (stZ (k j)) ws) := fun ws => runS_gt (k3 j) Gt88.base
    refine c_asg (fun v H' => ∃ (c3 u3 t3 o3 g3 : Addr), v = .ref c3 ∧ Grow [] Ha H' ∧ CtrAt K C (k j) c3 u3 t3 o3 g3 H' (stZ (k j)) ∧ ∀ b ∈ [u3, t3, o3, g3], Ha b = none) (fun Kk hk => ?_) ?_
    · refine ⟨_, rfl, _, rfl, Φ 17, _, j, _, rfl, rfl, SqL.of Ia.ld, atI_nat (two_get hj), fun c0 dx np nd ndp => ⟨_, _, rfl, c0, dx, k j, rfl, rfl, k3 j, upd_same, fun u0 t0 o0 g0 H5 g5 nu nt nc ng hc5 => ⟨rfl, ?_⟩⟩⟩
      have gi : Grow [] Ha (upd (upd Ha dx (.own c0)) c0 (.ins C dx [])) := (Grow.new nd _).trans (Grow.new (by rw [upd_ne (Ne.symm ndp)]; exact np) _)
      refine hk _ _ ⟨c0, u0, t0, o0, g0, rfl, (gi.wk.trans g5).shrink np, hc5, fun b hb => ?_⟩
      simp only [List.mem_cons, List.not_mem_nil, or_false] at hb
      rcases hb with rfl | rfl | rfl | rfl
      · exact gi.free (by simp) nu
      · exact gi.free (by simp) nt
      · exact gi.free (by simp) nc
      · exact gi.free (by simp) ng
    rintro _ Hb ⟨c3, u3, t3, o3, g3, rfl, gb, hc3, n3⟩
    have lkb := gb.keep _ _ (by simp) Ia.lk
    have kpb := gb.keep _ _ (by simp) kp
    have nx := Ia.nx j hj
    have sh : ∀ {H' : Hp}, Grow [u3, t3, o3, g3] Hb H' → Grow [] Ha H' := fun g => (gb.wk.trans g).fresh n3
    have hw := kk.len
    refine ⟨_, rfl, _, rfl, Φ 19, _, j, _, rfl, rfl, SqL.of lkb, atI_nat (two_get hj), Φ (6 + 7 * j), rfl, ⟨_, SqL.of kpb⟩, ?_⟩
    refine comp_list (xs := (S j).xs) (fun i ys σ' H' => ∃ (x0 x1 : Option V), σ' = [x0, x1, some (.ref c3)] ∧ Grow [u3, t3, o3, g3] Hb H' ∧ CtrAt K C (k j) c3 u3 t3 o3 g3 H' (runS (k j) (stZ (k j)) ((S j).ws.take i)) ∧ AllR (RsM K [u3, t3, o3, g3] H') ys (runR (k j) (stZ (k j)) ((S j).ws.take i))) ⟨_, _, rfl, Grow.refl _ _, hc3, trivial⟩ ?_ ?_ ?_
    · rintro i ys σ' H' _ ⟨x0, x1, rfl, g, _⟩
      exact SqL.of ((sh g).keep _ _ (by simp) kp)
    · rintro i x ys σ' H' hx ⟨x0, x1, rfl, g, c', rs'⟩
      obtain ⟨⟨w, d⟩, rr, hwi, hri, kq⟩ := kk.get hx
      obtain ⟨r, dd, v, f, rfl, s1, s2, od, rs, w1⟩ := kq.grow (sh g).wk
      refine ⟨r, _, rfl, s1, rfl, _, _, rfl, _, _, rfl, rfl, ?_⟩
      have hs' : (S j).ws.take (i + 1) = (S j).ws.take i ++ [(w, d)] := by rw [List.take_succ, hwi]; rfl
      refine ⟨_, rfl, _, rfl, _, _, rfl, c3, u3, t3, o3, g3, dd, k j, w, d, v, MF Φ, _, rfl, rfl, s2, od, w1, k3 j, c', (gt _).gs.gd, fun z H5 g5 c5 r5 f5 => ⟨?_, some (.ref dd), some f, rfl, g.trans g5, ?_, ?_⟩⟩
      · rw [rs'.len, runR_len, List.length_take]; omega
      · rw [hs', runS_snoc]; exact c5
      · rw [hs', runR_snoc]
        exact (RsMs.grow g5 rs').app (.one ⟨r5, fun l e z => c'.apart (f5 l e) (List.mem_cons_of_mem _ z)⟩)
    · rintro ys σ' H' ⟨x0, x1, rfl, g, c', rs'⟩ l hl
      have gl := Grow.new (m := []) hl (.lst ys)
      have sl : SqL K (upd H' l (.lst ys)) l ys := SqL.of upd_same
      have cl := c'.grow gl (by simp) (by simp) (by simp) (by simp) (by simp)
      have rl := RsMs.grow gl.wk rs'
      have gal := (sh g).trans gl
      rw [List.take_of_length_le (by rw [hw.1]; exact Nat.le_refl _)] at cl rl
      clear c' rs' g hl gl
      generalize upd H' l (.lst ys) = Hc at sl cl rl gal ⊢
      refine ⟨_, rfl, _, rfl, Φ 19, _, j, _, rfl, rfl, SqL.of (gal.keep _ _ (by simp) Ia.lk), atI_nat (two_get hj), Φ (6 + 7 * j), rfl, ⟨_, SqL.of (gal.keep _ _ (by simp) kp)⟩, ?_⟩
      refine comp_list (xs := (S j).xs) (fun i ys σ' H' => ∃ (x0 x1 : Option V), σ' = [x0, x1] ∧ Grow [] Hc H' ∧ AllR (RsM K (MF Φ) Ha) ys ((runR (k j) (stZ (k j)) (S j).ws).take i)) ⟨_, _, rfl, Grow.refl _ _, trivial⟩ ?_ ?_ ?_
      · rintro i ys σ' H' _ ⟨x0, x1, rfl, g, _⟩
        exact SqL.of ((gal.trans g).keep _ _ (by simp) kp)
      · rintro i x ys σ' H' hx ⟨x0, x1, rfl, g, rs'⟩
        obtain ⟨⟨w, d⟩, rr, hwi, hri, r, dd, v, f, rfl, s1, s2, od, rs, w1⟩ := kk.get hx
        refine ⟨r, _, rfl, (gal.trans g).sqT s1, rfl, _, _, rfl, _, _, rfl, rfl, ?_⟩
        refine ⟨_, rfl, ?_, _, _, rfl, g, ?_⟩
        · rw [rs'.len, List.length_take]; omega
        · rw [List.take_succ, hri]; exact rs'.app (.one rs)
      · rintro ys2 σ' H' ⟨x0, x1, rfl, g, rs'⟩ l2 hl2
        have g2 := g.trans (Grow.new (m := []) hl2 (.lst ys2))
        have sl2 : SqL K (upd H' l2 (.lst ys2)) l2 ys2 := SqL.of upd_same
        rw [List.take_of_length_le (by rw [hw.2]; exact Nat.le_refl _)] at rs'
        have gad := gal.trans g2
        generalize upd H' l2 (.lst ys2) = Hd at g2 sl2 gad ⊢
        refine ⟨.list ((runR (k j) (stZ (k j)) (S j).ws).map rsD), .lst (g2.sqL sl) (RsMs.dq (RsMs.grow g2.wk rl) fun v h => runR_val h), .lst sl2 (RsMs.dq (RsMs.grow gad.wk rs') fun v h => runR_val h), ⟨_, rfl⟩, Nat.le_trans (Nat.succ_le_succ rsD_depths) (by decide), _, rfl, iteF ?_⟩
        have ctd := cl.grow g2 (by simp) (by simp) (by simp) (by simp) (by simp)
        refine ⟨_, rfl, _, rfl, c3, u3, t3, o3, g3, k j, _, rfl, ctd, (gt _).gs.gd, fun y1 H4 g4 q4 => ?_⟩
        have ct4 := ct.grow (gad.trans g4) (by simp) (by simp) (by simp) (by simp) (by simp)
        refine ⟨_, rfl, _, rfl, Φ 18, _, j, _, rfl, rfl, SqL.of ((gad.trans g4).keep _ _ (by simp) Ia.lc), atI_nat (two_get hj), _, rfl, Φ (1 + 7 * j), Φ (2 + 7 * j), Φ (3 + 7 * j), Φ (4 + 7 * j), Φ (5 + 7 * j), k j, _, rfl, ct4, (gt _).gs.gd, fun y2 H5 g5 q5 => ⟨_, (dq_st ((q4 []).grow g5)).1, (dq_st (q5 [])).1, (dq_st (q4 [])).2, depth_st, _, rfl, iteF ?_⟩⟩
        exact ⟨_, _, _, _, _, _, rfl, ga.trans (gad.trans (g4.trans g5))⟩
  rintro σ Ha ⟨e10, e11, e12, e13, e14, e15, rfl, ga⟩
  have Ia := I9.grow hΦ ga
  have nz := Ia.nz
  refine ⟨_, rfl, Φ 16, rfl, ⟨_, SqL.of Ia.se⟩, ?_⟩
  refine comp_list (xs := zs) (fun i ys σ' H' => ∃ (x0 x1 : Option V), σ' = [x0, x1] ∧ Grow [] Ha H' ∧ i ≤ zs.length ∧ ys = (List.replicate i false).map V.bl) ⟨_, _, rfl, Grow.refl _ _, Nat.zero_le _, rfl⟩ ?_ ?_ ?_
  · rintro i ys σ' H' _ ⟨x0, x1, rfl, g, _⟩
    exact SqL.of (g.keep _ _ (by simp) Ia.se)
  · rintro i x ys σ' H' hx ⟨x0, x1, rfl, g, hi', rfl⟩
    obtain ⟨t, y, k', st, rfl, hsq, ho, k3', gt⟩ := (Ia.sn x (List.mem_of_getElem? hx)).grow g.wk
    have hil := (List.getElem?_eq_some_iff.mp hx).1
    obtain ⟨sh1, sh2, sh3⟩ := st_shows k3' gt
    refine ⟨t, _, rfl, hsq, rfl, _, _, rfl, _, _, rfl, rfl, ?_⟩
    refine ⟨_, rfl, y, _, _, rfl, ho, sh1, sh2, sh3, _, rfl, rfl, ?_, _, _, rfl, g, hil, ?_⟩
    · rw [List.length_map, List.length_replicate]; omega
    · rw [decide_eq_true rfl, List.replicate_succ', List.map_append]; rfl
  · rintro ys σ' H' ⟨x0, x1, rfl, g', _, rfl⟩ l hl
    refine ⟨l, _, rfl, SqL.of upd_same, _, rfl, iteF' (any_false88) ?_⟩
    exact ⟨_, _, _, _, _, _, _, _, _, _, _, _, _, _, _, rfl, g.trans (G9.trans (ga.trans (g'.trans (Grow.new hl _))))⟩
end
theorem my_len1 : ∀ {us : List Value}, us.length = 1 → ∃ x0, us = [x0]
  | [x0], _ => ⟨x0, rfl⟩
theorem my_len2 : ∀ {us : List Value}, us.length = 2 → ∃ x0, ∃ x1, us = [x0, x1]
  | [x0, x1], _ => ⟨x0, x1, rfl⟩
theorem my_len3 : ∀ {us : List Value}, us.length = 3 → ∃ x0, ∃ x1, ∃ x2, us = [x0, x1, x2]
  | [x0, x1, x2], _ => ⟨x0, x1, x2, rfl⟩
theorem my_len5 : ∀ {us : List Value}, us.length = 5 → ∃ x0, ∃ x1, ∃ x2, ∃ x3, ∃ x4, us = [x0, x1, x2, x3, x4]
  | [x0, x1, x2, x3, x4], _ => ⟨x0, x1, x2, x3, x4, rfl⟩
set_option maxHeartbeats 0 in
theorem all_mk {l : PySem.W.OpenLaw} {w : World} {K : PySem.W.Frag} {h : Heap} {mg : Str → Option Value} {fa f1 f2 f3 f4 f5 f6 f7 f8 f9 f10 f11 f12 f13 f14 f15 f16 f17 f18 f19 f20 f21 f22 : Addr} (X : K.In h) (G : h.Ns mainGlobals mg) (hfa : mg "law" = some (.ref fa))
    {od1 an1 od2 an2 od3 an3 od4 an4 od5 an5 od6 an6 od7 an7 od8 an8 od9 an9 od10 an10 od11 an11 od12 an12 od13 an13 od14 an14 od15 an15 od16 an16 od17 an17 od18 an18 od19 an19 od20 an20 od21 an21 od22 an22 : Option Addr} {sl1 sl2 sl3 sl4 sl5 sl6 sl7 sl8 sl9 sl10 sl11 sl12 sl13 sl14 sl15 sl16 sl17 sl18 sl19 sl20 sl21 sl22 : Array (Option Value)} {oc1 kV1 dc1 pm1 cd1 ct1 oc2 kV2 dc2 pm2 cd2 ct2 oc3 kV3 dc3 pm3 cd3 ct3 oc4 kV4 dc4 pm4 cd4 ct4 oc5 kV5 dc5 pm5 cd5 ct5 oc6 kV6 dc6 pm6 cd6 ct6 oc7 kV7 dc7 pm7 cd7 ct7 oc8 kV8 dc8 pm8 cd8 ct8 oc9 kV9 dc9 pm9 cd9 ct9 oc10 kV10 dc10 pm10 cd10 ct10 oc11 kV11 dc11 pm11 cd11 ct11 oc12 kV12 dc12 pm12 cd12 ct12 oc13 kV13 dc13 pm13 cd13 ct13 oc14 kV14 dc14 pm14 cd14 ct14 oc15 kV15 dc15 pm15 cd15 ct15 oc16 kV16 dc16 pm16 cd16 ct16 oc17 kV17 dc17 pm17 cd17 ct17 oc18 kV18 dc18 pm18 cd18 ct18 oc19 kV19 dc19 pm19 cd19 ct19 oc20 kV20 dc20 pm20 cd20 ct20 oc21 kV21 dc21 pm21 cd21 ct21 oc22 kV22 dc22 pm22 cd22 ct22 : Value}
    {C : Addr} (aC : PySem.W.nsIn K mainGlobals "Counter" = some (some (.ref C))) (pg : PySem.W.plainGet K C Str.empty = true) (hd : PySem.W.hasDictIn K C = true) (po : PySem.W.plainOver K C = true) (sa : PySem.W.findIn K (.ref C) "__setattr__" = some (some (.builtin "object.__setattr__"))) (mkc : PySem.W.makesIn K C = true) (kc : PySem.W.keepIn K (.ref C) = true)
    (na_depth : PySem.W.findIn K (.ref C) "depth" = some none) (na_gates : PySem.W.findIn K (.ref C) "gates" = some none) (na_out_lines : PySem.W.findIn K (.ref C) "out_lines" = some none) (na_ups : PySem.W.findIn K (.ref C) "ups" = some none) (na_tokens : PySem.W.findIn K (.ref C) "tokens" = some none) (na_came_out : PySem.W.findIn K (.ref C) "came_out" = some none) (na_given : PySem.W.findIn K (.ref C) "given" = some none)
    {A_AskError : Addr} (ax_AskError : PySem.W.nsIn K mainGlobals "AskError" = some (some (.ref A_AskError)))
    {A_NoSide : Addr} (ax_NoSide : PySem.W.nsIn K mainGlobals "NoSide" = some (some (.ref A_NoSide)))
    {A_NoToken : Addr} (ax_NoToken : PySem.W.nsIn K mainGlobals "NoToken" = some (some (.ref A_NoToken)))
    {A_TooMany : Addr} (ax_TooMany : PySem.W.nsIn K mainGlobals "TooMany" = some (some (.ref A_TooMany)))
    (ex_AskError : PySem.W.excIn K A_AskError veM "ValueError.__new__" = true)
    (ex_NoSide : PySem.W.excIn K A_NoSide veM "ValueError.__new__" = true)
    (ex_NoToken : PySem.W.excIn K A_NoToken veM "ValueError.__new__" = true)
    (ex_TooMany : PySem.W.excIn K A_TooMany veM "ValueError.__new__" = true)
    (u_NoSide_AskError : PySem.W.mroIn K A_NoSide (.ref A_AskError) = some true)
    (u_NoToken_AskError : PySem.W.mroIn K A_NoToken (.ref A_AskError) = some true)
    (u_TooMany_AskError : PySem.W.mroIn K A_TooMany (.ref A_AskError) = some true)
    (kk_NoSide : ExcK K A_NoSide)
    (kk_NoToken : ExcK K A_NoToken)
    (kk_TooMany : ExcK K A_TooMany)
    (q_NoSide_NoSide : PySem.W.kitOne K (.ref A_NoSide) (.ref A_NoSide) = some true)
    (q_NoSide_NoToken : PySem.W.kitOne K (.ref A_NoSide) (.ref A_NoToken) = some false)
    (q_NoSide_TooMany : PySem.W.kitOne K (.ref A_NoSide) (.ref A_TooMany) = some false)
    (q_NoToken_NoSide : PySem.W.kitOne K (.ref A_NoToken) (.ref A_NoSide) = some false)
    (q_NoToken_NoToken : PySem.W.kitOne K (.ref A_NoToken) (.ref A_NoToken) = some true)
    (q_NoToken_TooMany : PySem.W.kitOne K (.ref A_NoToken) (.ref A_TooMany) = some false)
    (q_TooMany_NoSide : PySem.W.kitOne K (.ref A_TooMany) (.ref A_NoSide) = some false)
    (q_TooMany_NoToken : PySem.W.kitOne K (.ref A_TooMany) (.ref A_NoToken) = some false)
    (q_TooMany_TooMany : PySem.W.kitOne K (.ref A_TooMany) (.ref A_TooMany) = some true)
    (a1 : PySem.W.findIn K (.ref C) "told" = some (some (.ref f1))) (i1 : PySem.W.isFn K (.ref f1) = true) (l1 : K.lookup f1 = some ⟨oc1, od1, .func (PySem.W.fnOf "told" "Counter.told" (defArgs (inClass (top 18) 6)) (defBody (inClass (top 18) 6)) (defScope (inClass (top 18) 6)) .none kV1 dc1 pm1 an1 cd1 ct1), sl1⟩) (c1 : PySem.W.codeIn K cd1 "Counter.told" = true) (k1 : PySem.W.keepIn K (.ref f1) = true)
    (a2 : PySem.W.findIn K (.ref C) "outs" = some (some (.ref f2))) (i2 : PySem.W.isFn K (.ref f2) = true) (l2 : K.lookup f2 = some ⟨oc2, od2, .func (PySem.W.fnOf "outs" "Counter.outs" (defArgs (inClass (top 18) 5)) (defBody (inClass (top 18) 5)) (defScope (inClass (top 18) 5)) .none kV2 dc2 pm2 an2 cd2 ct2), sl2⟩) (c2 : PySem.W.codeIn K cd2 "Counter.outs" = true) (k2 : PySem.W.keepIn K (.ref f2) = true)
    (a3 : PySem.W.findIn K (.ref C) "inside" = some (some (.ref f3))) (i3 : PySem.W.isFn K (.ref f3) = true) (l3 : K.lookup f3 = some ⟨oc3, od3, .func (PySem.W.fnOf "inside" "Counter.inside" (defArgs (inClass (top 18) 4)) (defBody (inClass (top 18) 4)) (defScope (inClass (top 18) 4)) .none kV3 dc3 pm3 an3 cd3 ct3), sl3⟩) (c3 : PySem.W.codeIn K cd3 "Counter.inside" = true) (k3 : PySem.W.keepIn K (.ref f3) = true)
    (a4 : PySem.W.nsIn K mainGlobals "_law_state" = some (some (.ref f4))) (l4 : K.lookup f4 = some ⟨oc4, od4, .func (PySem.W.fnOf "_law_state" "_law_state" (defArgs (top 24)) (defBody (top 24)) (defScope (top 24)) .none kV4 dc4 pm4 an4 cd4 ct4), sl4⟩) (c4 : PySem.W.codeIn K cd4 "_law_state" = true) (k4 : PySem.W.keepIn K (.ref f4) = true)
    (a5 : PySem.W.nsIn K mainGlobals "is_whole" = some (some (.ref f5))) (l5 : K.lookup f5 = some ⟨oc5, od5, .func (PySem.W.fnOf "is_whole" "is_whole" (defArgs (top 7)) (defBody (top 7)) (defScope (top 7)) .none kV5 dc5 pm5 an5 cd5 ct5), sl5⟩) (c5 : PySem.W.codeIn K cd5 "is_whole" = true) (k5 : PySem.W.keepIn K (.ref f5) = true)
    (a6 : PySem.W.nsIn K mainGlobals "is_within" = some (some (.ref f6))) (l6 : K.lookup f6 = some ⟨oc6, od6, .func (PySem.W.fnOf "is_within" "is_within" (defArgs (top 8)) (defBody (top 8)) (defScope (top 8)) .none kV6 dc6 pm6 an6 cd6 ct6), sl6⟩) (c6 : PySem.W.codeIn K cd6 "is_within" = true) (k6 : PySem.W.keepIn K (.ref f6) = true)
    (a7 : PySem.W.nsIn K mainGlobals "is_line" = some (some (.ref f7))) (l7 : K.lookup f7 = some ⟨oc7, od7, .func (PySem.W.fnOf "is_line" "is_line" (defArgs (top 10)) (defBody (top 10)) (defScope (top 10)) .none kV7 dc7 pm7 an7 cd7 ct7), sl7⟩) (c7 : PySem.W.codeIn K cd7 "is_line" = true) (k7 : PySem.W.keepIn K (.ref f7) = true)
    (a8 : PySem.W.findIn K (.ref C) "come" = some (some (.ref f8))) (i8 : PySem.W.isFn K (.ref f8) = true) (l8 : K.lookup f8 = some ⟨oc8, od8, .func (PySem.W.fnOf "come" "Counter.come" (defArgs (inClass (top 18) 1)) (defBody (inClass (top 18) 1)) (defScope (inClass (top 18) 1)) .none kV8 dc8 pm8 an8 cd8 ct8), sl8⟩) (c8 : PySem.W.codeIn K cd8 "Counter.come" = true) (k8 : PySem.W.keepIn K (.ref f8) = true)
    (a9 : PySem.W.findIn K (.ref C) "come_out" = some (some (.ref f9))) (i9 : PySem.W.isFn K (.ref f9) = true) (l9 : K.lookup f9 = some ⟨oc9, od9, .func (PySem.W.fnOf "come_out" "Counter.come_out" (defArgs (inClass (top 18) 3)) (defBody (inClass (top 18) 3)) (defScope (inClass (top 18) 3)) .none kV9 dc9 pm9 an9 cd9 ct9), sl9⟩) (c9 : PySem.W.codeIn K cd9 "Counter.come_out" = true) (k9 : PySem.W.keepIn K (.ref f9) = true)
    (a10 : PySem.W.findIn K (.ref C) "go" = some (some (.ref f10))) (i10 : PySem.W.isFn K (.ref f10) = true) (l10 : K.lookup f10 = some ⟨oc10, od10, .func (PySem.W.fnOf "go" "Counter.go" (defArgs (inClass (top 18) 2)) (defBody (inClass (top 18) 2)) (defScope (inClass (top 18) 2)) .none kV10 dc10 pm10 an10 cd10 ct10), sl10⟩) (c10 : PySem.W.codeIn K cd10 "Counter.go" = true) (k10 : PySem.W.keepIn K (.ref f10) = true)
    (a11 : PySem.W.nsIn K mainGlobals "_law_told" = some (some (.ref f11))) (l11 : K.lookup f11 = some ⟨oc11, od11, .func (PySem.W.fnOf "_law_told" "_law_told" (defArgs (top 23)) (defBody (top 23)) (defScope (top 23)) .none kV11 dc11 pm11 an11 cd11 ct11), sl11⟩) (c11 : PySem.W.codeIn K cd11 "_law_told" = true) (k11 : PySem.W.keepIn K (.ref f11) = true)
    (a12 : PySem.W.nsIn K mainGlobals "_law_draw" = some (some (.ref f12))) (l12 : K.lookup f12 = some ⟨oc12, od12, .func (PySem.W.fnOf "_law_draw" "_law_draw" (defArgs (top 22)) (defBody (top 22)) (defScope (top 22)) .none kV12 dc12 pm12 an12 cd12 ct12), sl12⟩) (c12 : PySem.W.codeIn K cd12 "_law_draw" = true) (k12 : PySem.W.keepIn K (.ref f12) = true)
    (a13 : PySem.W.nsIn K mainGlobals "_law_odd_line" = some (some (.ref f13))) (l13 : K.lookup f13 = some ⟨oc13, od13, .func (PySem.W.fnOf "_law_odd_line" "_law_odd_line" (defArgs (top 25)) (defBody (top 25)) (defScope (top 25)) .none kV13 dc13 pm13 an13 cd13 ct13), sl13⟩) (c13 : PySem.W.codeIn K cd13 "_law_odd_line" = true) (k13 : PySem.W.keepIn K (.ref f13) = true)
    (a14 : PySem.W.nsIn K mainGlobals "_law_odd_token" = some (some (.ref f14))) (l14 : K.lookup f14 = some ⟨oc14, od14, .func (PySem.W.fnOf "_law_odd_token" "_law_odd_token" (defArgs (top 26)) (defBody (top 26)) (defScope (top 26)) .none kV14 dc14 pm14 an14 cd14 ct14), sl14⟩) (c14 : PySem.W.codeIn K cd14 "_law_odd_token" = true) (k14 : PySem.W.keepIn K (.ref f14) = true)
    (a15 : PySem.W.nsIn K mainGlobals "_law_done" = some (some (.ref f15))) (l15 : K.lookup f15 = some ⟨oc15, od15, .func (PySem.W.fnOf "_law_done" "_law_done" (defArgs (top 27)) (defBody (top 27)) (defScope (top 27)) .none kV15 dc15 pm15 an15 cd15 ct15), sl15⟩) (c15 : PySem.W.codeIn K cd15 "_law_done" = true) (k15 : PySem.W.keepIn K (.ref f15) = true)
    (a16 : PySem.W.nsIn K mainGlobals "_law_cell" = some (some (.ref f16))) (l16 : K.lookup f16 = some ⟨oc16, od16, .func (PySem.W.fnOf "_law_cell" "_law_cell" (defArgs (top 20)) (defBody (top 20)) (defScope (top 20)) .none kV16 dc16 pm16 an16 cd16 ct16), sl16⟩) (c16 : PySem.W.codeIn K cd16 "_law_cell" = true) (k16 : PySem.W.keepIn K (.ref f16) = true)
    (a17 : PySem.W.nsIn K mainGlobals "_law_pot" = some (some (.ref f17))) (l17 : K.lookup f17 = some ⟨oc17, od17, .func (PySem.W.fnOf "_law_pot" "_law_pot" (defArgs (top 21)) (defBody (top 21)) (defScope (top 21)) .none kV17 dc17 pm17 an17 cd17 ct17), sl17⟩) (c17 : PySem.W.codeIn K cd17 "_law_pot" = true) (k17 : PySem.W.keepIn K (.ref f17) = true)
    (a18 : PySem.W.nsIn K mainGlobals "merge_lines" = some (some (.ref f18))) (l18 : K.lookup f18 = some ⟨oc18, od18, .func (PySem.W.fnOf "merge_lines" "merge_lines" (defArgs (top 13)) (defBody (top 13)) (defScope (top 13)) .none kV18 dc18 pm18 an18 cd18 ct18), sl18⟩) (c18 : PySem.W.codeIn K cd18 "merge_lines" = true) (k18 : PySem.W.keepIn K (.ref f18) = true)
    (a19 : PySem.W.nsIn K mainGlobals "count_lines" = some (some (.ref f19))) (l19 : K.lookup f19 = some ⟨oc19, od19, .func (PySem.W.fnOf "count_lines" "count_lines" (defArgs (top 14)) (defBody (top 14)) (defScope (top 14)) .none kV19 dc19 pm19 an19 cd19 ct19), sl19⟩) (c19 : PySem.W.codeIn K cd19 "count_lines" = true) (k19 : PySem.W.keepIn K (.ref f19) = true)
    (a20 : PySem.W.nsIn K mainGlobals "counting_net" = some (some (.ref f20))) (l20 : K.lookup f20 = some ⟨oc20, od20, .func (PySem.W.fnOf "counting_net" "counting_net" (defArgs (top 15)) (defBody (top 15)) (defScope (top 15)) .none kV20 dc20 pm20 an20 cd20 ct20), sl20⟩) (c20 : PySem.W.codeIn K cd20 "counting_net" = true) (k20 : PySem.W.keepIn K (.ref f20) = true)
    (a21 : PySem.W.findIn K (.ref C) "__init__" = some (some (.ref f21))) (i21 : PySem.W.isFn K (.ref f21) = true) (l21 : K.lookup f21 = some ⟨oc21, od21, .func (PySem.W.fnOf "__init__" "Counter.__init__" (defArgs (inClass (top 18) 0)) (defBody (inClass (top 18) 0)) (defScope (inClass (top 18) 0)) .none kV21 dc21 pm21 an21 cd21 ct21), sl21⟩) (c21 : PySem.W.codeIn K cd21 "Counter.__init__" = true) (k21 : PySem.W.keepIn K (.ref f21) = true)
    (a22 : PySem.W.nsIn K mainGlobals "law" = some (some (.ref f22))) (l22 : K.lookup f22 = some ⟨oc22, od22, .func (PySem.W.fnOf "law" "law" (defArgs (top 28)) (defBody (top 28)) (defScope (top 28)) .none kV22 dc22 pm22 an22 cd22 ct22), sl22⟩) (c22 : PySem.W.codeIn K cd22 "law" = true) (k22 : PySem.W.keepIn K (.ref f22) = true)
    {t_DEEPEST_COUNTING : Tok} (ga_DEEPEST_COUNTING : PySem.W.nsIn K mainGlobals "DEEPEST_COUNTING" = some (some (.int 3 t_DEEPEST_COUNTING)))
    {t_MOST_TOKENS : Tok} (ga_MOST_TOKENS : PySem.W.nsIn K mainGlobals "MOST_TOKENS" = some (some (.int 40 t_MOST_TOKENS)))
    (ga_any : PySem.W.nsIn K mainGlobals "any" = some none)
    (ga_sorted : PySem.W.nsIn K mainGlobals "sorted" = some none)
    (ga_zip : PySem.W.nsIn K mainGlobals "zip" = some none)
    (z_abs : PySem.W.nsIn K mainGlobals "abs" = some none)
    (z_len : PySem.W.nsIn K mainGlobals "len" = some none)
    (z_max : PySem.W.nsIn K mainGlobals "max" = some none)
    (z_min : PySem.W.nsIn K mainGlobals "min" = some none)
    (z_divmod : PySem.W.nsIn K mainGlobals "divmod" = some none)
    (z_repr : PySem.W.nsIn K mainGlobals "repr" = some none)
    (z_isinstance : PySem.W.nsIn K mainGlobals "isinstance" = some none)
    (z_all : PySem.W.nsIn K mainGlobals "all" = some none)
    (z_range : PySem.W.nsIn K mainGlobals "range" = some none)
    (z_int : PySem.W.nsIn K mainGlobals "int" = some none)
    (z_bool : PySem.W.nsIn K mainGlobals "bool" = some none)
    (z_str : PySem.W.nsIn K mainGlobals "str" = some none)
    (z_tuple : PySem.W.nsIn K mainGlobals "tuple" = some none)
    (z_list : PySem.W.nsIn K mainGlobals "list" = some none)
    (z_dict : PySem.W.nsIn K mainGlobals "dict" = some none)
    :
    ∃ fd : FuncData, (∀ (s : Shared) (v : Value), BindsTo s fd ⟨[v], []⟩ [("_law_script", v)]) ∧ ∀ base : Heap, K.In base → base.Ns mainGlobals mg → FnOk l.prog w K mg base CX0 12 fa fd ["_law_script"] (sp_law K) := by
  have e := hfa.symm.trans (PySem.W.mg_of X G a22)
  cases e
  have F1 := fun_mk (st := (inClass (top 18) 6)) l1 c1 k1
  have F2 := fun_mk (st := (inClass (top 18) 5)) l2 c2 k2
  have F3 := fun_mk (st := (inClass (top 18) 4)) l3 c3 k3
  have F4 := fun_mk (st := (top 24)) l4 c4 k4
  have F5 := fun_mk (st := (top 7)) l5 c5 k5
  have F6 := fun_mk (st := (top 8)) l6 c6 k6
  have F7 := fun_mk (st := (top 10)) l7 c7 k7
  have F8 := fun_mk (st := (inClass (top 18) 1)) l8 c8 k8
  have F9 := fun_mk (st := (inClass (top 18) 3)) l9 c9 k9
  have F10 := fun_mk (st := (inClass (top 18) 2)) l10 c10 k10
  have F11 := fun_mk (st := (top 23)) l11 c11 k11
  have F12 := fun_mk (st := (top 22)) l12 c12 k12
  have F13 := fun_mk (st := (top 25)) l13 c13 k13
  have F14 := fun_mk (st := (top 26)) l14 c14 k14
  have F15 := fun_mk (st := (top 27)) l15 c15 k15
  have F16 := fun_mk (st := (top 20)) l16 c16 k16
  have F17 := fun_mk (st := (top 21)) l17 c17 k17
  have F18 := fun_mk (st := (top 13)) l18 c18 k18
  have F19 := fun_mk (st := (top 14)) l19 c19 k19
  have F20 := fun_mk (st := (top 15)) l20 c20 k20
  have F21 := fun_mk (st := (inClass (top 18) 0)) l21 c21 k21
  have F22 := fun_mk (st := (top 28)) l22 c22 k22
  have b1 := F1.binds (ps := ["self"]) fun _ _ _ _ _ _ us hl => by obtain ⟨_, rfl⟩ := my_len1 hl; rfl
  have b2 := F2.binds (ps := ["self"]) fun _ _ _ _ _ _ us hl => by obtain ⟨_, rfl⟩ := my_len1 hl; rfl
  have b3 := F3.binds (ps := ["self"]) fun _ _ _ _ _ _ us hl => by obtain ⟨_, rfl⟩ := my_len1 hl; rfl
  have b4 := F4.binds (ps := ["_law_counter"]) fun _ _ _ _ _ _ us hl => by obtain ⟨_, rfl⟩ := my_len1 hl; rfl
  have b5 := F5.binds (ps := ["thing"]) fun _ _ _ _ _ _ us hl => by obtain ⟨_, rfl⟩ := my_len1 hl; rfl
  have b6 := F6.binds (ps := ["thing", "least", "greatest"]) fun _ _ _ _ _ _ us hl => by obtain ⟨_, _, _, rfl⟩ := my_len3 hl; rfl
  have b7 := F7.binds (ps := ["k", "thing"]) fun _ _ _ _ _ _ us hl => by obtain ⟨_, _, rfl⟩ := my_len2 hl; rfl
  have b8 := F8.binds (ps := ["self", "line"]) fun _ _ _ _ _ _ us hl => by obtain ⟨_, _, rfl⟩ := my_len2 hl; rfl
  have b9 := F9.binds (ps := ["self", "token", "line"]) fun _ _ _ _ _ _ us hl => by obtain ⟨_, _, _, rfl⟩ := my_len3 hl; rfl
  have b10 := F10.binds (ps := ["self", "token"]) fun _ _ _ _ _ _ us hl => by obtain ⟨_, _, rfl⟩ := my_len2 hl; rfl
  have b11 := F11.binds (ps := ["_law_counter", "_law_deed"]) fun _ _ _ _ _ _ us hl => by obtain ⟨_, _, rfl⟩ := my_len2 hl; rfl
  have b12 := F12.binds (ps := ["_law_pot_here", "_law_many"]) fun _ _ _ _ _ _ us hl => by obtain ⟨_, _, rfl⟩ := my_len2 hl; rfl
  have b13 := F13.binds (ps := ["_law_pot_here", "_law_lines"]) fun _ _ _ _ _ _ us hl => by obtain ⟨_, _, rfl⟩ := my_len2 hl; rfl
  have b14 := F14.binds (ps := ["_law_pot_here", "_law_many_in"]) fun _ _ _ _ _ _ us hl => by obtain ⟨_, _, rfl⟩ := my_len2 hl; rfl
  have b15 := F15.binds (ps := ["_law_pot_here", "_law_counter", "_law_lines", "_law_many_in", "_law_out"]) fun _ _ _ _ _ _ us hl => by obtain ⟨_, _, _, _, _, rfl⟩ := my_len5 hl; rfl
  have b16 := F16.binds (ps := ["_law_script", "_law_k"]) fun _ _ _ _ _ _ us hl => by obtain ⟨_, _, rfl⟩ := my_len2 hl; rfl
  have b17 := F17.binds (ps := ["_law_script", "_law_k"]) fun _ _ _ _ _ _ us hl => by obtain ⟨_, _, rfl⟩ := my_len2 hl; rfl
  have b18 := F18.binds (ps := ["one", "other", "found"]) fun _ _ _ _ _ _ us hl => by obtain ⟨_, _, _, rfl⟩ := my_len3 hl; rfl
  have b19 := F19.binds (ps := ["lines", "found"]) fun _ _ _ _ _ _ us hl => by obtain ⟨_, _, rfl⟩ := my_len2 hl; rfl
  have b20 := F20.binds (ps := ["k"]) fun _ _ _ _ _ _ us hl => by obtain ⟨_, rfl⟩ := my_len1 hl; rfl
  have b21 := F21.binds (ps := ["self", "k"]) fun _ _ _ _ _ _ us hl => by obtain ⟨_, _, rfl⟩ := my_len2 hl; rfl
  have T : CTxt K mg C := ⟨⟨pg, hd, po, sa⟩, na_depth, na_gates, na_out_lines, na_ups, na_tokens, na_came_out, na_given, PySem.W.mg_of X G aC⟩
  have x_AskError : ExcC K mg "AskError" A_AskError := excC_of (PySem.W.mg_of X G ax_AskError) ex_AskError
  have x_NoSide : ExcC K mg "NoSide" A_NoSide := excC_of (PySem.W.mg_of X G ax_NoSide) ex_NoSide
  have x_NoToken : ExcC K mg "NoToken" A_NoToken := excC_of (PySem.W.mg_of X G ax_NoToken) ex_NoToken
  have x_TooMany : ExcC K mg "TooMany" A_TooMany := excC_of (PySem.W.mg_of X G ax_TooMany) ex_TooMany
  have v_AskError : mg "AskError" = some (.ref A_AskError) := PySem.W.mg_of X G ax_AskError
  have v_NoSide : mg "NoSide" = some (.ref A_NoSide) := PySem.W.mg_of X G ax_NoSide
  have v_NoToken : mg "NoToken" = some (.ref A_NoToken) := PySem.W.mg_of X G ax_NoToken
  have v_TooMany : mg "TooMany" = some (.ref A_TooMany) := PySem.W.mg_of X G ax_TooMany
  have k_NoSide := kk_NoSide
  have k_NoToken := kk_NoToken
  have k_TooMany := kk_TooMany
  have B : Blt mg := ⟨PySem.W.mg_none_of X G z_abs, PySem.W.mg_none_of X G z_len, PySem.W.mg_none_of X G z_max, PySem.W.mg_none_of X G z_min, PySem.W.mg_none_of X G z_divmod, PySem.W.mg_none_of X G z_repr, PySem.W.mg_none_of X G z_isinstance, PySem.W.mg_none_of X G z_all, PySem.W.mg_none_of X G z_range, PySem.W.mg_none_of X G z_int, PySem.W.mg_none_of X G z_bool, PySem.W.mg_none_of X G z_str, PySem.W.mg_none_of X G z_tuple, PySem.W.mg_none_of X G z_list, PySem.W.mg_none_of X G z_dict⟩
  refine ⟨PySem.W.fnOf "law" "law" (defArgs (top 28)) (defBody (top 28)) (defScope (top 28)) .none kV22 dc22 pm22 an22 cd22 ct22, fun s v => .of_eq rfl, fun base _ _ => ?_⟩
  have C1 : MCallee l.prog w K mg base C 1 "told" ["self"] (sp_told86 C K) := ⟨_, _, ok_Counter_told (P := l.prog) (w := w) (base := base) (n := 0) F1 B T     (PySem.W.mg_none_of X G ga_sorted)  , b1, ⟨a1, i1, k1⟩⟩
  have C2 : MCallee l.prog w K mg base C 1 "outs" ["self"] (sp_outs87 C K) := ⟨_, _, ok_Counter_outs (P := l.prog) (w := w) (base := base) (n := 0) F2 B T       , b2, ⟨a2, i2, k2⟩⟩
  have C3 : MCallee l.prog w K mg base C 1 "inside" ["self"] (sp_inside86 C K) := ⟨_, _, ok_Counter_inside (P := l.prog) (w := w) (base := base) (n := 0) F3 B T       , b3, ⟨a3, i3, k3⟩⟩
  have C4 : Callee l.prog w K mg base 2 "_law_state" ["_law_counter"] (sp_state88 C K) := ⟨_, _, ok__law_state (P := l.prog) (w := w) (base := base) (n := 1) F4 B T   (C1.mono (by decide)) (C2.mono (by decide)) (C3.mono (by decide))    , b4, k4, PySem.W.mg_of X G a4⟩
  have C5 : Callee l.prog w K mg base 1 "is_whole" ["thing"] (sp_is_wholeO K) := ⟨_, _, ok_is_whole (P := l.prog) (w := w) (base := base) (n := 0) F5 B      , b5, k5, PySem.W.mg_of X G a5⟩
  have C6 : Callee l.prog w K mg base 2 "is_within" ["thing", "least", "greatest"] (sp_withinO K) := ⟨_, _, ok_is_within (P := l.prog) (w := w) (base := base) (n := 1) F6 B   (C5.mono (by decide))   , b6, k6, PySem.W.mg_of X G a6⟩
  have C7 : Callee l.prog w K mg base 3 "is_line" ["k", "thing"] (sp_lineO K) := ⟨_, _, ok_is_line (P := l.prog) (w := w) (base := base) (n := 2) F7 B   (C6.mono (by decide))   , b7, k7, PySem.W.mg_of X G a7⟩
  have C8 : MCalleeX l.prog w K mg base C 4 "come" ["self", "line"] (sp_come88 A_NoSide A_TooMany A_NoSide C K) := ⟨_, _, ok_Counter_come (P := l.prog) (w := w) (base := base) (n := 3) F8 B T x_TooMany x_NoSide   (C7.mono (by decide))  (PySem.W.mg_of X G ga_MOST_TOKENS) , b8, ⟨a8, i8, k8⟩⟩
  have C9 : MCallee l.prog w K mg base C 1 "come_out" ["self", "token", "line"] (sp_come_out87 C K) := ⟨_, _, ok_Counter_come_out (P := l.prog) (w := w) (base := base) (n := 0) F9 B T       , b9, ⟨a9, i9, k9⟩⟩
  have C10 : MCalleeX l.prog w K mg base C 3 "go" ["self", "token"] (sp_go88 A_NoToken A_NoToken A_NoToken C K) := ⟨_, _, ok_Counter_go (P := l.prog) (w := w) (base := base) (n := 2) F10 B T x_NoToken  (C9.mono (by decide)) (C6.mono (by decide))   , b10, ⟨a10, i10, k10⟩⟩
  have C11 : Callee l.prog w K mg base 5 "_law_told" ["_law_counter", "_law_deed"] (sp_told88 C K) := ⟨_, _, ok__law_told (P := l.prog) (w := w) (base := base) (n := 4) F11 B T x_AskError x_NoSide x_TooMany x_NoToken v_NoToken v_TooMany v_NoSide u_NoSide_AskError k_NoSide q_NoSide_NoSide q_NoSide_TooMany q_NoSide_NoToken u_TooMany_AskError k_TooMany q_TooMany_NoSide q_TooMany_TooMany q_TooMany_NoToken u_NoToken_AskError k_NoToken q_NoToken_NoSide q_NoToken_TooMany q_NoToken_NoToken (C8.mono (by decide)) (C10.mono (by decide))    , b11, k11, PySem.W.mg_of X G a11⟩
  have C12 : Callee l.prog w K mg base 1 "_law_draw" ["_law_pot_here", "_law_many"] (sp_take K) := ⟨_, _, ok__law_draw (P := l.prog) (w := w) (base := base) (n := 0) F12 B      , b12, k12, PySem.W.mg_of X G a12⟩
  have C13 : Callee l.prog w K mg base 2 "_law_odd_line" ["_law_pot_here", "_law_lines"] (sp_odd88 K) := ⟨_, _, ok__law_odd_line (P := l.prog) (w := w) (base := base) (n := 1) F13 B   (C12.mono (by decide))   , b13, k13, PySem.W.mg_of X G a13⟩
  have C14 : Callee l.prog w K mg base 2 "_law_odd_token" ["_law_pot_here", "_law_many_in"] (sp_odd88 K) := ⟨_, _, ok__law_odd_token (P := l.prog) (w := w) (base := base) (n := 1) F14 B   (C12.mono (by decide))   , b14, k14, PySem.W.mg_of X G a14⟩
  have C15 : Callee l.prog w K mg base 6 "_law_done" ["_law_pot_here", "_law_counter", "_law_lines", "_law_many_in", "_law_out"] (sp_done88 C K) := ⟨_, _, ok__law_done (P := l.prog) (w := w) (base := base) (n := 5) F15 B   (C4.mono (by decide)) (C11.mono (by decide)) (C13.mono (by decide)) (C14.mono (by decide)) (C12.mono (by decide))   , b15, k15, PySem.W.mg_of X G a15⟩
  have C16 : Callee l.prog w K mg base 1 "_law_cell" ["_law_script", "_law_k"] (sp_cell K) := ⟨_, _, ok__law_cell (P := l.prog) (w := w) (base := base) (n := 0) F16 B      , b16, k16, PySem.W.mg_of X G a16⟩
  have C17 : Callee l.prog w K mg base 2 "_law_pot" ["_law_script", "_law_k"] (sp_pot K) := ⟨_, _, ok__law_pot (P := l.prog) (w := w) (base := base) (n := 1) F17 B   (C16.mono (by decide))   , b17, k17, PySem.W.mg_of X G a17⟩
  have R18 : ∀ N : Nat, FnOk l.prog w K mg base CX0 (0 + N) f18 (PySem.W.fnOf "merge_lines" "merge_lines" (defArgs (top 13)) (defBody (top 13)) (defScope (top 13)) .none kV18 dc18 pm18 an18 cd18 ct18) ["one", "other", "found"] (sp_merge N K) := by
    intro N
    induction N with
    | zero => exact fnok_vac vac_merge
    | succ N ih => exact ok_merge_lines (P := l.prog) (w := w) (base := base) (n := 0 + N) F18 B ⟨_, _, ih, b18, k18, PySem.W.mg_of X G a18⟩ (PySem.W.mg_none_of X G ga_zip) 
  have C18 : Callee l.prog w K mg base 4 "merge_lines" ["one", "other", "found"] (sp_merge 4 K) := ⟨_, _, R18 4, b18, k18, PySem.W.mg_of X G a18⟩
  have R19 : ∀ N : Nat, FnOk l.prog w K mg base CX0 (4 + N) f19 (PySem.W.fnOf "count_lines" "count_lines" (defArgs (top 14)) (defBody (top 14)) (defScope (top 14)) .none kV19 dc19 pm19 an19 cd19 ct19) ["lines", "found"] (sp_cntl N K) := by
    intro N
    induction N with
    | zero => exact fnok_vac vac_cntl
    | succ N ih => exact ok_count_lines (P := l.prog) (w := w) (base := base) (n := 4 + N) F19 B (C18.mono (Nat.le_trans (show 4 ≤ 4 by decide) (Nat.le_add_right 4 N))) ⟨_, _, ih, b19, k19, PySem.W.mg_of X G a19⟩  
  have C19 : Callee l.prog w K mg base 8 "count_lines" ["lines", "found"] (sp_cntl 4 K) := ⟨_, _, R19 4, b19, k19, PySem.W.mg_of X G a19⟩
  have C20 : Callee l.prog w K mg base 9 "counting_net" ["k"] (sp_cnet87 K) := ⟨_, _, ok_counting_net (P := l.prog) (w := w) (base := base) (n := 8) F20 B   (C19.mono (by decide)) (C6.mono (by decide))  (PySem.W.mg_of X G ga_DEEPEST_COUNTING) , b20, k20, PySem.W.mg_of X G a20⟩
  have C21 : MCallee l.prog w K mg base C 10 "__init__" ["self", "k"] (sp_init87 C K) := ⟨_, _, ok_Counter___init__ (P := l.prog) (w := w) (base := base) (n := 9) F21 B T    (C20.mono (by decide))   , b21, ⟨a21, i21, k21⟩⟩
  exact ok_law (P := l.prog) (w := w) (base := base) (n := 11) F22 B T    (MkCallee.mono (j := 11) (C21.make ⟨mkc, a21, i21, kc⟩) (by decide)) (C4.mono (by decide)) (C11.mono (by decide)) (C12.mono (by decide)) (C15.mono (by decide)) (C17.mono (by decide)) (PySem.W.mg_none_of X G ga_any)  
theorem walk {l : PySem.W.OpenLaw} {q : Program} {loose : List Str} {XP : (Str → Option Value) → Heap → Prop} {YP : World → Heap → Prop} {d : DefRec} {K : Params → PySem.W.Frag} (hn : l.most = some 63) (hdf : d.params.defaults = [])
    (hY : ∀ (w : World) (h : Heap), YP w h → (K w.params).In h)
    (F : ∀ (w : World) (mg : Str → Option Value) (fa : Addr) (h : Heap), (K w.params).In h → h.Ns mainGlobals mg → mg d.name = some (.ref fa) →
      ∃ fd : FuncData, (∀ (s : Shared) (u : Value), BindsTo s fd ⟨[u], []⟩ [("_law_script", u)]) ∧ ∀ base : Heap, (K w.params).In base → base.Ns mainGlobals mg → FnOk l.prog w (K w.params) mg base CX0 12 fa fd ["_law_script"] (sp_law (K w.params))) :
    PySem.W.WalkO q loose XP YP l.row.toRowW d [] (fun f vs => PySem.call f vs) :=
  L2.walk_of (n := 63) (k := 12) (x := "_law_script") (CX := fun _ => CX0) (sp := fun w => sp_law (K w.params)) hn (by decide) hdf ⟨rfl, by decide, by decide, rfl⟩ hY F (fun _ _ a ns hl hO hS => ⟨_, rfl, a, ns, rfl, Scr.of hO hS, hl, fun _ => rfl⟩) fun _ _ _ _ _ z => z
theorem walkX {q : Program} {loose : List Str} {XP : (Str → Option Value) → Heap → Prop} {K : Params → PySem.W.Frag} {as : List Addr} {n t : Nat} {r : PySem.W.RowW} {d : DefRec} {kwd : List (Str × Expr)} {run : Value → List Value → Sem Value}
    (e : ∀ P, as = (K P).map (·.1)) (W : PySem.W.WalkO q loose XP (PySem.W.InK K) r d kwd run) : PySem.W.WalkX q loose XP (PySem.W.X.obsZ as) (PySem.W.X.valZ K n t) r d kwd run :=
  fun w s₀ s₁ mg mb G Y a o pm cd doc dV kV h2 h3 h4 h5 h6 h7 args vals as' L hpre hlay hrd hwl hlo =>
    W w s₀ s₁ mg mb G (PySem.W.InK.keeps w s₀.heap s₁.heap (PySem.W.X.z_facts e Y).2.1 L.keeps) a o pm cd doc dV kV h2 h3 h4 h5 h6 h7 args vals as' hpre hlay hrd hwl hlo
end My
open PySem PySem.W PyProof.Rows
set_option maxRecDepth 100000 in
set_option maxHeartbeats 0 in
theorem PySem.Challenge.cw_joinedasks_k88_counters_beside_one_anoth_holds : PySem.Challenge.rw_joinedasks_k88_counters_beside_one_anoth.Holds := by
  w_on; o_law; z_head; (case hw => w_witness2)
  refine My.walkX (fun _ => by kernel_rfl) (My.walk (l := PySem.Challenge.rw_joinedasks_k88_counters_beside_one_anoth) rfl rfl (fun w h Y => Y) ?F)
  case F =>
    intro w mg fa h KX G hmg
    refine' My.all_mk KX G hmg ?aC ?pg ?hd ?po ?sa ?mkc ?kc ?na_depth ?na_gates ?na_out_lines ?na_ups ?na_tokens ?na_came_out ?na_given ?ax_AskError ?ax_NoSide ?ax_NoToken ?ax_TooMany ?ex_AskError ?ex_NoSide ?ex_NoToken ?ex_TooMany ?u_NoSide_AskError ?u_NoToken_AskError ?u_TooMany_AskError ?kk_NoSide ?kk_NoToken ?kk_TooMany ?q_NoSide_NoSide ?q_NoSide_NoToken ?q_NoSide_TooMany ?q_NoToken_NoSide ?q_NoToken_NoToken ?q_NoToken_TooMany ?q_TooMany_NoSide ?q_TooMany_NoToken ?q_TooMany_TooMany ?a1 ?i1 ?l1 ?c1 ?k1 ?a2 ?i2 ?l2 ?c2 ?k2 ?a3 ?i3 ?l3 ?c3 ?k3 ?a4 ?l4 ?c4 ?k4 ?a5 ?l5 ?c5 ?k5 ?a6 ?l6 ?c6 ?k6 ?a7 ?l7 ?c7 ?k7 ?a8 ?i8 ?l8 ?c8 ?k8 ?a9 ?i9 ?l9 ?c9 ?k9 ?a10 ?i10 ?l10 ?c10 ?k10 ?a11 ?l11 ?c11 ?k11 ?a12 ?l12 ?c12 ?k12 ?a13 ?l13 ?c13 ?k13 ?a14 ?l14 ?c14 ?k14 ?a15 ?l15 ?c15 ?k15 ?a16 ?l16 ?c16 ?k16 ?a17 ?l17 ?c17 ?k17 ?a18 ?l18 ?c18 ?k18 ?a19 ?l19 ?c19 ?k19 ?a20 ?l20 ?c20 ?k20 ?a21 ?i21 ?l21 ?c21 ?k21 ?a22 ?l22 ?c22 ?k22 ?ga_DEEPEST_COUNTING ?ga_MOST_TOKENS ?ga_any ?ga_sorted ?ga_zip ?z_abs ?z_len ?z_max ?z_min ?z_divmod ?z_repr ?z_isinstance ?z_all ?z_range ?z_int ?z_bool ?z_str ?z_tuple ?z_list ?z_dict
    (case ax_AskError => k_is)
    (case ax_NoSide => k_is)
    (case ax_NoToken => k_is)
    (case ax_TooMany => k_is)
    (case ex_AskError => kernel_rfl)
    (case ex_NoSide => kernel_rfl)
    (case ex_NoToken => kernel_rfl)
    (case ex_TooMany => kernel_rfl)
    (case u_NoSide_AskError => kernel_rfl)
    (case u_NoToken_AskError => kernel_rfl)
    (case u_TooMany_AskError => kernel_rfl)
    (case kk_NoSide => exact ⟨by kernel_rfl, by kernel_rfl, by kernel_rfl, by kernel_rfl, by kernel_rfl⟩)
    (case kk_NoToken => exact ⟨by kernel_rfl, by kernel_rfl, by kernel_rfl, by kernel_rfl, by kernel_rfl⟩)
    (case kk_TooMany => exact ⟨by kernel_rfl, by kernel_rfl, by kernel_rfl, by kernel_rfl, by kernel_rfl⟩)
    (case q_NoSide_NoSide => kernel_rfl)
    (case q_NoSide_NoToken => kernel_rfl)
    (case q_NoSide_TooMany => kernel_rfl)
    (case q_NoToken_NoSide => kernel_rfl)
    (case q_NoToken_NoToken => kernel_rfl)
    (case q_NoToken_TooMany => kernel_rfl)
    (case q_TooMany_NoSide => kernel_rfl)
    (case q_TooMany_NoToken => kernel_rfl)
    (case q_TooMany_TooMany => kernel_rfl)
    (case aC => k_is); (case pg => k_is); (case hd => k_is); (case po => k_is); (case sa => k_is); (case mkc => k_is); (case kc => k_is); (case na_depth => k_is); (case na_gates => k_is); (case na_out_lines => k_is); (case na_ups => k_is); (case na_tokens => k_is); (case na_came_out => k_is); (case na_given => k_is)
    (case a1 => k_is); (case i1 => k_is); (case l1 => k_is); (case c1 => k_is); (case k1 => k_is)
    (case a2 => k_is); (case i2 => k_is); (case l2 => k_is); (case c2 => k_is); (case k2 => k_is)
    (case a3 => k_is); (case i3 => k_is); (case l3 => k_is); (case c3 => k_is); (case k3 => k_is)
    (case a4 => k_is); (case l4 => k_is); (case c4 => k_is); (case k4 => k_is)
    (case a5 => k_is); (case l5 => k_is); (case c5 => k_is); (case k5 => k_is)
    (case a6 => k_is); (case l6 => k_is); (case c6 => k_is); (case k6 => k_is)
    (case a7 => k_is); (case l7 => k_is); (case c7 => k_is); (case k7 => k_is)
    (case a8 => k_is); (case i8 => k_is); (case l8 => k_is); (case c8 => k_is); (case k8 => k_is)
    (case a9 => k_is); (case i9 => k_is); (case l9 => k_is); (case c9 => k_is); (case k9 => k_is)
    (case a10 => k_is); (case i10 => k_is); (case l10 => k_is); (case c10 => k_is); (case k10 => k_is)
    (case a11 => k_is); (case l11 => k_is); (case c11 => k_is); (case k11 => k_is)
    (case a12 => k_is); (case l12 => k_is); (case c12 => k_is); (case k12 => k_is)
    (case a13 => k_is); (case l13 => k_is); (case c13 => k_is); (case k13 => k_is)
    (case a14 => k_is); (case l14 => k_is); (case c14 => k_is); (case k14 => k_is)
    (case a15 => k_is); (case l15 => k_is); (case c15 => k_is); (case k15 => k_is)
    (case a16 => k_is); (case l16 => k_is); (case c16 => k_is); (case k16 => k_is)
    (case a17 => k_is); (case l17 => k_is); (case c17 => k_is); (case k17 => k_is)
    (case a18 => k_is); (case l18 => k_is); (case c18 => k_is); (case k18 => k_is)
    (case a19 => k_is); (case l19 => k_is); (case c19 => k_is); (case k19 => k_is)
    (case a20 => k_is); (case l20 => k_is); (case c20 => k_is); (case k20 => k_is)
    (case a21 => k_is); (case i21 => k_is); (case l21 => k_is); (case c21 => k_is); (case k21 => k_is)
    (case a22 => k_is); (case l22 => k_is); (case c22 => k_is); (case k22 => k_is)
    (case ga_DEEPEST_COUNTING => k_is)
    (case ga_MOST_TOKENS => k_is)
    (case ga_any => k_is)
    (case ga_sorted => k_is)
    (case ga_zip => k_is)
    (case z_abs => k_is); (case z_len => k_is); (case z_max => k_is); (case z_min => k_is); (case z_divmod => k_is); (case z_repr => k_is); (case z_isinstance => k_is); (case z_all => k_is); (case z_range => k_is); (case z_int => k_is); (case z_bool => k_is); (case z_str => k_is); (case z_tuple => k_is); (case z_list => k_is); (case z_dict => k_is)
