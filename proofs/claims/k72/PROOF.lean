import PyProof.Rows.All
import Wide.All
import OpenK.AllK
import Wide.FinOn
import Lean
import PyProof.EqAt
import PyProof.EqKinds
import PyProof.TupleCall
import PyProof.NeKinds
import PyProof.ReprRoads
import PyProof.ReprLen
import PyProof.Rows.RegStrFacts
import PyProof.Draws
import PyProof.EnumStmt
import PyProof.ZipIter
import PyProof.ListNew
import PyProof.TupleOfGen
import PyProof.ListRange
import PyProof.Rows.Range3
import PyProof.SumWalkG
import PyProof.Rows.RuleB_lshift
import PyProof.AutoSeq1
import PyProof.Cells
import PyProof.AutoListH
import PyProof.DictTable
import PyProof.RulesAs
import PyProof.NsDelKeeps
import KE.KDictList
import PySem.Challenge.RW_joinedasks_k72_whole_orders_that_fit
set_option Elab.async false
set_option linter.all false
set_option maxRecDepth 100000
namespace L2
open PySem PySem.Spec PyProof.Rows

abbrev Key := Sum Int Str
def keyIs : Key → Value → Bool
  | .inl k, v => Value.isInt k v
  | .inr x, v => Value.isStrOf x v
def keyH (w : World) : Key → Int
  | .inl k => hashInt k
  | .inr x => hashStr w x
theorem keyIs_shape : ∀ {k : Key} {v : Value}, keyIs k v = true → (∃ i t, k = Sum.inl i ∧ v = Value.int i t) ∨ (∃ x t, k = Sum.inr x ∧ v = Value.str x t)
  | .inl i, v, h => by
    obtain ⟨t, e⟩ := Value.isInt_shape (k := i) (v := v) h
    exact .inl ⟨i, t, rfl, e⟩
  | .inr x, v, h => by
    obtain ⟨t, e⟩ := Value.isStrOf_shape (x := x) (v := v) h
    exact .inr ⟨x, t, rfl, e⟩
theorem key_ll (a b : Int) : decide ((Sum.inl a : Key) = Sum.inl b) = (a == b) := by
  by_cases e : a = b
  · subst e; simp
  · have h : ¬ (Sum.inl a : Key) = Sum.inl b := fun q => e (Sum.inl.inj q)
    rw [decide_eq_false h]
    exact (beq_eq_false_iff_ne.mpr e).symm
theorem key_rr (a b : Str) : decide ((Sum.inr a : Key) = Sum.inr b) = decide (a = b) := by
  by_cases e : a = b
  · subst e; simp
  · have h : ¬ (Sum.inr a : Key) = Sum.inr b := fun q => e (Sum.inr.inj q)
    rw [decide_eq_false h, decide_eq_false e]
theorem key_lr (a : Int) (b : Str) : decide ((Sum.inl a : Key) = Sum.inr b) = false := decide_eq_false (fun q => nomatch q)
theorem key_rl (a : Str) (b : Int) : decide ((Sum.inr a : Key) = Sum.inl b) = false := decide_eq_false (fun q => nomatch q)

def mixKind (prog : Program) (w : World) : PySem.KeyKind prog w Key where
  is := keyIs
  hash := keyH w
  inj := fun v a b ha hb => by
    rcases keyIs_shape ha with ⟨i, t, rfl, rfl⟩ | ⟨x, t, rfl, rfl⟩
    · rcases keyIs_shape hb with ⟨j, u, rfl, e⟩ | ⟨y, u, rfl, e⟩
      · injection e with e1 _; rw [e1]
      · exact nomatch e
    · rcases keyIs_shape hb with ⟨j, u, rfl, e⟩ | ⟨y, u, rfl, e⟩
      · exact nomatch e
      · injection e with e1 _; rw [e1]
  byValue := fun k v h => by
    rcases keyIs_shape h with ⟨i, t, rfl, rfl⟩ | ⟨x, t, rfl, rfl⟩ <;> rfl
  pyHash := fun hv h => by
    rcases keyIs_shape hv with ⟨i, t, rfl, rfl⟩ | ⟨x, t, rfl, rfl⟩
    · exact wpAny_pyHash_int h
    · exact wpAny_pyHash_str h
  eqBool := fun hu hv h => by
    rcases keyIs_shape hu with ⟨i, t, rfl, rfl⟩ | ⟨x, t, rfl, rfl⟩
    · rcases keyIs_shape hv with ⟨j, u, rfl, rfl⟩ | ⟨y, u, rfl, rfl⟩
      · rw [key_ll] at h; exact wpAny_eqBool_int h
      · rw [key_lr] at h; exact SeqAt.EqAt.int_str i t y u _ _ _ _ h
    · rcases keyIs_shape hv with ⟨j, u, rfl, rfl⟩ | ⟨y, u, rfl, rfl⟩
      · rw [key_rl] at h; exact SeqAt.EqAt.str_int x t j u _ _ _ _ h
      · rw [key_rr] at h; exact wpAny_eqBool_str h
  «strs» := fun k x t v h => by
    rcases keyIs_shape h with ⟨i, u, rfl, e⟩ | ⟨y, u, rfl, e⟩
    · exact nomatch e
    · injection e with e1 _
      subst e1
      cases v <;> rfl

end L2

namespace L2
open PySem PySem.Spec PyProof.Rows

inductive V where
  | non | bl (b : Bool) | int (i : Int) | str (x : Str) | byt (b : Array UInt8) | flt (b : UInt64) | ref (a : Addr) | ty (n : String)
  deriving DecidableEq

def RelV : V → Value → Prop
  | .non, u => u = Value.none
  | .bl b, u => u = Value.bool b
  | .int i, u => ∃ t, u = Value.int i t
  | .str x, u => ∃ t, u = Value.str x t
  | .byt b, u => ∃ t, u = Value.bytes b t
  | .flt b, u => ∃ t, u = Value.float b t
  | .ref a, u => u = Value.ref a
  | .ty n, u => u = Value.type n

abbrev Vals : List V → List Value → Prop := Paired RelV
theorem Vals.length {xs : List V} {us : List Value} (r : Vals xs us) : xs.length = us.length := Paired.length r
theorem Vals.get : ∀ {xs : List V} {us : List Value} {i : Nat} {x : V}, Vals xs us → xs[i]? = some x → ∃ u, us[i]? = some u ∧ RelV x u
  | _, _, _, _, .nil, e => by simp at e
  | _, _, 0, _, .cons r _, e => by simp at e; subst e; exact ⟨_, rfl, r⟩
  | _, _, i + 1, x, .cons _ t, e => by
    obtain ⟨u, h1, h2⟩ := Vals.get (i := i) (x := x) t (by simpa using e)
    exact ⟨u, by simpa using h1, h2⟩
theorem Vals.set {x : V} {u : Value} (r : RelV x u) : ∀ {xs : List V} {us : List Value} (i : Nat), Vals xs us → Vals (xs.set i x) (us.set i u)
  | _, _, _, .nil => .nil
  | _, _, 0, .cons _ t => .cons r t
  | _, _, i + 1, .cons q t => .cons q (Vals.set r i t)
theorem Vals.append : ∀ {xs ys : List V} {us ws : List Value}, Vals xs us → Vals ys ws → Vals (xs ++ ys) (us ++ ws)
  | _, _, _, _, .nil, s => s
  | _, _, _, _, .cons r t, s => .cons r (Vals.append t s)
theorem Vals.take : ∀ {xs : List V} {us : List Value} (n : Nat), Vals xs us → Vals (xs.take n) (us.take n)
  | _, _, 0, _ => .nil
  | _, _, _ + 1, .nil => .nil
  | _, _, n + 1, .cons r t => .cons r (Vals.take n t)
theorem Vals.drop : ∀ {xs : List V} {us : List Value} (n : Nat), Vals xs us → Vals (xs.drop n) (us.drop n)
  | _, _, 0, r => r
  | _, _, _ + 1, .nil => .nil
  | _, _, n + 1, .cons _ t => Vals.drop n t

def RelO : Option V → Option Value → Prop
  | some v, some u => RelV v u
  | none, none => True
  | _, _ => False
def KV {κ : Type} : List (κ × V) → List (κ × Value) → Prop := Paired fun (p : κ × V) (q : κ × Value) => p.1 = q.1 ∧ RelV p.2 q.2

def kV : Key → V
  | .inl i => .int i
  | .inr x => .str x

inductive HO where
  /-- a list -/
  | lst (xs : List V)
  /-- a tuple (never changes) -/
  | tup (xs : List V)
  /-- a dict whose keys are ints and texts; one whose keys are tuples of ints and texts (the empty one is both) -/
  | dK (kvs : List (Key × V)) | dT (kvs : List (List Key × V))
  /-- a set of ints: its members, its size -/
  | set (S : Int → Bool) (n : Nat)
  /-- an instance of the class at C, its dict at dx, its attributes -/
  | ins (C dx : Addr) (fs : List (Str × V))
  /-- the dict of the instance at x -/
  | own (x : Addr)
  /-- the dict of an exception -/
  | xd (fs : List (Str × V))
  /-- a bound method, f of x -/
  | met (f x : Addr)
  /-- a range object lo, lo + 1, .. below hi -/
  | rng (lo hi : Int)
  /-- a thing that is known to the object (the script; a dict while a loop walks it): read, never written while it is so -/
  | frz (o : Obj) (u : HO)
  /-- a code object's table -/
  | tbl (ps : Array Value)
  /-- any other thing, by what is true of its one object (a def of one's own: SetO a S n := HO.ext fun h => ..) -/
  | ext (φ : Heap → Prop)

abbrev Hp := Addr → Option HO
def upd (H : Hp) (a : Addr) (o : HO) : Hp := fun b => if b = a then some o else H b
theorem upd_same {H : Hp} {a : Addr} {o : HO} : upd H a o a = some o := by unfold upd; rw [if_pos rfl]
theorem upd_ne {H : Hp} {a b : Addr} {o : HO} (h : b ≠ a) : upd H a o b = H b := by unfold upd; rw [if_neg h]
theorem ne_of_none {H : Hp} {a b : Addr} {o : HO} (h : H a = some o) (h' : H b = none) : a ≠ b := by
  intro e; subst e; rw [h] at h'; cases h'

section
variable (P : Program) (w : World)
def ObjOk (H : Hp) (h : Heap) (a : Addr) : HO → Prop
  | .lst xs => xs.length ≤ sizeLine ∧ ∃ (its : List Value) (n : Nat), Vals xs its ∧ h.get? a = some { cls := .type "list", data := .seq its.toArray n }
  | .tup xs => xs.length ≤ sizeLine ∧ ∃ its : List Value, Vals xs its ∧ IsTup h a its.toArray
  | .dK kvs => kvs.length ≤ sizeLine ∧ (a == sysModules) = false ∧ ∃ vs, KV kvs vs ∧ h.DictOf (mixKind P w) a vs
  | .dT kvs => kvs.length ≤ sizeLine ∧ (a == sysModules) = false ∧ ∃ xs : List (List Key × Addr × Value),
      Paired (fun (p : List Key × V) (q : List Key × Addr × Value) => p.1 = q.1 ∧ H q.2.1 = some (.tup (p.1.map kV)) ∧ RelV p.2 q.2.2) kvs xs ∧
      ∃ o es ep, h.get? a = some o ∧ o.ExactDict ∧ o.data = .dict es ep ∧ es.toList = xs.map (entryOfKey (tupleKind (mixKind P w))) ∧ (xs.map (·.1)).Nodup
  | .set S n => h.SetOf (intKind P w) a S n
  | .ins C dx fs => H dx = some (.own a) ∧ fs.length ≤ 1000 ∧ dx ≠ a ∧ h.get? a = some (PySem.W.instObj C dx) ∧
      ∃ mA, h.Ns1 dx mA ∧ (∀ f, RelO (fs.lookup f) (mA f)) ∧ PySem.Within mA (fs.map (·.1))
  | .own _ => ∃ o, h.get? a = some o
  | .xd fs => ∃ mA, h.Ns1 a mA ∧ ∀ f, RelO (fs.lookup f) (mA f)
  | .rng lo hi => ∃ t u v, h.get? a = some { cls := .type "range", data := .fields #[.int lo t, .int hi u, .int 1 v] }
  | .frz o u => h.get? a = some o ∧ ObjOk H h a u
  | .tbl ps => h.get? a = some { cls := .none, data := .fields ps }
  | .met f x => h.get? a = some (PySem.W.methodObj (.ref f) (.ref x))
  | .ext φ => φ h ∧ (∃ o, h.get? a = some o) ∧ ∀ h1 h2 : Heap, φ h1 → (∀ o, h1.get? a = some o → h2.get? a = some o) → φ h2
def HOk (H : Hp) (h : Heap) : Prop := ∀ a o, H a = some o → ObjOk P w H h a o
end

section
variable {P : Program} {w : World} {H H' : Hp} {h h' : Heap} {a : Addr} {o : HO}
theorem ObjOk.lt (x : ObjOk P w H h a o) : a < h.objs.size := by
  cases o with
  | lst xs => obtain ⟨_, _, _, _, e⟩ := x; exact Heap.lt_size e
  | tup xs => obtain ⟨_, _, _, p⟩ := x; exact p.lt
  | dK kvs => obtain ⟨_, _, _, _, o, _, _, e, _⟩ := x; exact Heap.lt_size e
  | dT kvs => obtain ⟨_, _, _, _, o, _, _, e, _⟩ := x; exact Heap.lt_size e
  | set S n => obtain ⟨o, _, _, _, e, _⟩ := x; exact Heap.lt_size e
  | ins C dx fs => obtain ⟨_, _, _, e, _⟩ := x; exact Heap.lt_size e
  | own y => obtain ⟨_, e⟩ := x; exact Heap.lt_size e
  | xd fs => obtain ⟨_, ⟨_, _, _, e, _⟩, _⟩ := x; exact Heap.lt_size e
  | rng lo hi => obtain ⟨_, _, _, e⟩ := x; exact Heap.lt_size e
  | frz ob u => obtain ⟨e, _⟩ := x; exact Heap.lt_size e
  | tbl ps => exact Heap.lt_size (show h.get? a = some _ from x)
  | met f y => exact Heap.lt_size (show h.get? a = some _ from x)
  | ext φ => obtain ⟨_, ⟨_, e⟩, _⟩ := x; exact Heap.lt_size e
theorem Paired.mapP {α β : Type} {F G : α → β → Prop} : ∀ {l₁ : List α} {l₂ : List β}, Paired F l₁ l₂ → (∀ a b, F a b → G a b) → Paired G l₁ l₂
  | _, _, .nil, _ => .nil
  | _, _, .cons r t, f => .cons (f _ _ r) (Paired.mapP t f)
theorem ObjOk.stay (x : ObjOk P w H h a o) (k : ∀ b u, (b = a ∨ H b = some (.own a)) → h.get? b = some u → h'.get? b = some u)
    (ho : ∀ b, H b = some (.own a) → H' b = some (.own a)) (ht : ∀ b xs, H b = some (.tup xs) → H' b = some (.tup xs)) : ObjOk P w H' h' a o := by
  induction o with
  | lst xs => obtain ⟨z, its, n, r, e⟩ := x; exact ⟨z, its, n, r, k _ _ (.inl rfl) e⟩
  | tup xs => obtain ⟨z, its, r, ob, e, c⟩ := x; exact ⟨z, its, r, ob, k _ _ (.inl rfl) e, c⟩
  | dK kvs => obtain ⟨z, y, vs, r, ob, es, ep, e, c⟩ := x; exact ⟨z, y, vs, r, ob, es, ep, k _ _ (.inl rfl) e, c⟩
  | dT kvs =>
    obtain ⟨z, y, xs, r, ob, es, ep, e, c⟩ := x
    exact ⟨z, y, xs, Paired.mapP r fun p q z => ⟨z.1, ht _ _ z.2.1, z.2.2⟩, ob, es, ep, k _ _ (.inl rfl) e, c⟩
  | set S n => obtain ⟨ob, es, ep, t, e, c⟩ := x; exact ⟨ob, es, ep, t, k _ _ (.inl rfl) e, c⟩
  | ins C dx fs =>
    obtain ⟨d, z, ne, e, mA, ⟨od, es, ep, e2, c⟩, r⟩ := x
    exact ⟨ho _ d, z, ne, k _ _ (.inl rfl) e, mA, ⟨od, es, ep, k _ _ (.inr d) e2, c⟩, r⟩
  | own y => obtain ⟨ob, e⟩ := x; exact ⟨ob, k _ _ (.inl rfl) e⟩
  | xd fs => obtain ⟨mA, ⟨od, es, ep, e, c⟩, r⟩ := x; exact ⟨mA, ⟨od, es, ep, k _ _ (.inl rfl) e, c⟩, r⟩
  | rng lo hi => obtain ⟨t, u, v, e⟩ := x; exact ⟨t, u, v, k _ _ (.inl rfl) e⟩
  | frz ob u ih => obtain ⟨e, q⟩ := x; exact ⟨k _ _ (.inl rfl) e, ih q⟩
  | tbl ps =>
    have e : h.get? a = some { cls := .none, data := .fields ps } := x
    show h'.get? a = some { cls := .none, data := .fields ps }
    exact k a _ (.inl rfl) e
  | met f y =>
    have e : h.get? a = some (PySem.W.methodObj (.ref f) (.ref y)) := x
    show h'.get? a = some (PySem.W.methodObj (.ref f) (.ref y))
    exact k a _ (.inl rfl) e
  | ext φ => obtain ⟨p, ⟨o, e⟩, st⟩ := x; exact ⟨st _ _ p fun o q => k _ _ (.inl rfl) q, ⟨o, k _ _ (.inl rfl) e⟩, st⟩
theorem HOk.lt (x : HOk P w H h) (e : H a = some o) : a < h.objs.size := (x a o e).lt
theorem HOk.fresh (x : HOk P w H h) (e : h.objs.size ≤ a) : H a = none := by
  cases q : H a with
  | none => rfl
  | some u => exact absurd (Nat.lt_of_lt_of_le (x.lt q) e) (Nat.lt_irrefl _)
theorem HOk.kept (x : HOk P w H h) (k : ∀ b u, h.get? b = some u → h'.get? b = some u) : HOk P w H h' := fun a o e =>
  (x a o e).stay (fun b u _ q => k b u q) (fun _ q => q) fun _ _ q => q
theorem HOk.laid (x : HOk P w H h) (k : ∀ b u, h.get? b = some u → h'.get? b = some u) (hp : h.objs.size ≤ a) (new : ObjOk P w (upd H a o) h' a o) : HOk P w (upd H a o) h' := fun b u e => by
  have hn := x.fresh hp
  by_cases hb : b = a
  · subst hb; rw [upd_same] at e; cases e; exact new
  · rw [upd_ne hb] at e
    exact (x b u e).stay (fun c v _ q => k c v q) (fun c q => by rw [upd_ne (ne_of_none q hn)]; exact q) fun c xs q => by rw [upd_ne (ne_of_none q hn)]; exact q
end

def Rd (H : Hp) (a : Addr) (u : HO) : Prop := H a = some u ∨ ∃ o, H a = some (.frz o u)
theorem Rd.of {H : Hp} {a : Addr} {u : HO} (h : H a = some u) : Rd H a u := .inl h
theorem Rd.ok {P : Program} {w : World} {H : Hp} {h : Heap} {a : Addr} {u : HO} (r : Rd H a u) (x : HOk P w H h) : ObjOk P w H h a u := by
  rcases r with r | ⟨o, r⟩
  · exact x a u r
  · obtain ⟨_, q⟩ := x a _ r
    exact q
def Mut : Option HO → Prop
  | some (.lst _) => True
  | some (.dK _) => True
  | some (.dT _) => True
  | some (.set _ _) => True
  | some (.ins _ _ _) => True
  | some (.ext _) => True
  | _ => False
section
variable {P : Program} {w : World} {H : Hp} {h h' : Heap} {x e : Addr} {o' : HO}
theorem HOk.write (ok : HOk P w H h) (mu : Mut (H x)) (he : e = x ∨ H e = some (.own x)) (k : ∀ b u, b ≠ e → h.get? b = some u → h'.get? b = some u) (heo : ∃ u, h'.get? e = some u)
    (new : ObjOk P w (upd H x o') h' x o') : HOk P w (upd H x o') h' := fun b u q => by
  have nown : ∀ c y, H c = some (.own y) → c ≠ x := fun c y r z => by subst z; rw [r] at mu; exact mu
  have ntup : ∀ c xs, H c = some (.tup xs) → c ≠ x := fun c xs r z => by subst z; rw [r] at mu; exact mu
  by_cases hb : b = x
  · subst hb; rw [upd_same] at q; cases q; exact new
  · rw [upd_ne hb] at q
    by_cases hbe : b = e
    · have q' : H b = some (.own x) := by
        rcases he with z | z
        · exact absurd (hbe.trans z) hb
        · rw [hbe]; exact z
      rw [q] at q'; cases q'
      obtain ⟨v, hv⟩ := heo
      exact ⟨v, by rw [hbe]; exact hv⟩
    · refine (ok b u q).stay (fun c v hc r => k c v ?_ r) (fun c r => by rw [upd_ne (nown c b r)]; exact r) fun c xs r => by rw [upd_ne (ntup c xs r)]; exact r
      rcases hc with rfl | hc
      · exact hbe
      · rintro rfl
        rcases he with z | z
        · exact nown c b hc z
        · rw [hc] at z; cases z; exact hb rfl
end

structure Un (fs ex : List Addr) (H H' : Hp) (h h' : Heap) : Prop where
  keep : ∀ b o, h.get? b = some o → H b = none → b ∉ fs → b ∉ ex → h'.get? b = some o
  slot : ∀ b o, h.get? b = some o → H b = none → b ∈ fs → b ∉ ex → ∃ sl, h'.get? b = some { o with slots := sl }
  free : ∀ b o, h.get? b = some o → H b = none → b ∉ ex → H' b = none
  there : ∀ b o, h.get? b = some o → b ∉ ex → ∃ o', h'.get? b = some o'
  tups : ∀ b xs, H b = some (.tup xs) → H' b = some (.tup xs)
  frzs : ∀ b o u, H b = some (.frz o u) → H' b = some (.frz o u)
  tbls : ∀ b ps, H b = some (.tbl ps) → ∃ more, H' b = some (.tbl (ps ++ more))
section
variable {fs fs' ex ex' : List Addr} {H H1 H2 : Hp} {h h1 h2 h' : Heap} {a x e : Addr} {o : HO}
theorem Un.any (u : Un fs ex H H1 h h1) {b : Addr} {ob : Obj} (q : h.get? b = some ob) (n : H b = none) (hx : b ∉ ex) : ∃ sl, h1.get? b = some { ob with slots := sl } := by
  by_cases hb : b ∈ fs
  · exact u.slot b ob q n hb hx
  · exact ⟨ob.slots, u.keep b ob q n hb hx⟩
theorem Un.trans (a : Un fs ex H H1 h h1) (b : Un fs ex H1 H2 h1 h2) : Un fs ex H H2 h h2 where
  keep := fun c ob q n hc hx => b.keep c ob (a.keep c ob q n hc hx) (a.free c ob q n hx) hc hx
  slot := fun c ob q n hc hx => by
    obtain ⟨sl, e1⟩ := a.slot c ob q n hc hx
    obtain ⟨sl', e2⟩ := b.slot c _ e1 (a.free c ob q n hx) hc hx
    exact ⟨sl', e2⟩
  free := fun c ob q n hx => by
    obtain ⟨o', e1⟩ := a.there c ob q hx
    exact b.free c o' e1 (a.free c ob q n hx) hx
  there := fun c ob q hx => by
    obtain ⟨o', e1⟩ := a.there c ob q hx
    exact b.there c o' e1 hx
  tups := fun c xs q => b.tups c xs (a.tups c xs q)
  frzs := fun c ob xs q => b.frzs c ob xs (a.frzs c ob xs q)
  tbls := fun c ps q => by
    obtain ⟨m1, e1⟩ := a.tbls c ps q
    obtain ⟨m2, e2⟩ := b.tbls c _ e1
    exact ⟨m1 ++ m2, by rw [e2, Array.append_assoc]⟩
theorem Un.kept (k : ∀ b u, h.get? b = some u → h'.get? b = some u) : Un fs ex H H h h' :=
  ⟨fun b ob q _ _ _ => k b ob q, fun b ob q _ _ _ => ⟨ob.slots, k b ob q⟩, fun _ _ _ n _ => n, fun b ob q _ => ⟨ob, k b ob q⟩, fun _ _ q => q, fun _ _ _ q => q, fun _ ps q => ⟨#[], by rw [q]; simp⟩⟩
theorem Un.refl : Un fs ex H H h h := Un.kept fun _ _ q => q
theorem Un.laid (k : ∀ b u, h.get? b = some u → h'.get? b = some u) (hp : h.objs.size ≤ a) (hn : H a = none) : Un fs ex H (upd H a o) h h' where
  keep := fun b u q _ _ _ => k b u q
  slot := fun b u q _ _ _ => ⟨u.slots, k b u q⟩
  free := fun b u q n _ => by rw [upd_ne (Nat.ne_of_lt (Nat.lt_of_lt_of_le (Heap.lt_size q) hp))]; exact n
  there := fun b u q _ => ⟨u, k b u q⟩
  tups := fun b xs q => by rw [upd_ne (ne_of_none q hn)]; exact q
  frzs := fun b u xs q => by rw [upd_ne (ne_of_none q hn)]; exact q
  tbls := fun b ps q => ⟨#[], by rw [upd_ne (ne_of_none q hn), q]; simp⟩
theorem Un.write (mu : Mut (H x)) (he : e = x ∨ H e = some (.own x)) (k : ∀ b u, b ≠ e → h.get? b = some u → h'.get? b = some u) (heo : ∃ u, h'.get? e = some u) : Un fs ex H (upd H x o) h h' := by
  have hx : ∀ b, H b = none → b ≠ x := fun b n z => by subst z; rw [n] at mu; exact mu
  have hb : ∀ b, H b = none → b ≠ e := fun b n z => by
    subst z
    rcases he with r | r
    · exact hx b n r
    · rw [n] at r; cases r
  have hm : ∀ b u, H b = some u → ¬ Mut (some u) → b ≠ x := fun b u q nm z => by subst z; rw [q] at mu; exact nm mu
  refine ⟨fun b u q n _ _ => k b u (hb b n) q, fun b u q n _ _ => ⟨u.slots, k b u (hb b n) q⟩, fun b u q n _ => by rw [upd_ne (hx b n)]; exact n, fun b u q _ => ?_,
    fun b xs q => by rw [upd_ne (hm b _ q fun z => z)]; exact q, fun b u xs q => by rw [upd_ne (hm b _ q fun z => z)]; exact q, fun b ps q => ⟨#[], by rw [upd_ne (hm b _ q fun z => z), q]; simp⟩⟩
  by_cases hbe : b = e
  · subst hbe; exact heo
  · exact ⟨u, k b u hbe q⟩
theorem Un.mono (u : Un fs ex H H1 h h1) (hs : ∀ b ∈ fs, b ∈ fs') (hx : ∀ b ∈ ex, b ∈ ex') : Un fs' ex' H H1 h h1 :=
  ⟨fun b ob q n hb he => u.keep b ob q n (fun z => hb (hs b z)) fun z => he (hx b z), fun _ _ q n _ he => u.any q n fun z => he (hx _ z), fun b ob q n he => u.free b ob q n fun z => he (hx b z), fun b ob q he => u.there b ob q fun z => he (hx b z), u.tups, u.frzs, u.tbls⟩
end

def trk (h : Heap) (H : Hp) : List Addr := (List.range h.objs.size).filter fun a => (H a).isSome
def hidT (h : Heap) (H : Hp) : Heap := PySem.W.hideAll h (trk h H)
theorem hidT_size (h : Heap) (H : Hp) : (hidT h H).objs.size = h.objs.size := PySem.W.hideAll_size _ _
theorem hidT_get {h : Heap} {H : Hp} {b : Addr} {o : Obj} (e : h.get? b = some o) (n : H b = none) : (hidT h H).get? b = some o :=
  PySem.W.hideAll_get _ e fun hm => by
    have q : (H b).isSome = true := (List.mem_filter.mp hm).2
    rw [n] at q; simp at q
theorem of_hidT {h : Heap} {H : Hp} {b : Addr} {o : Obj} (e : (hidT h H).get? b = some o) : h.get? b = some o ∧ H b = none := by
  have e' : h.get? b = some o := PySem.W.of_hideAll (trk h H) e
  refine ⟨e', ?_⟩
  cases q : H b with
  | none => rfl
  | some x =>
    have hm : b ∈ trk h H := List.mem_filter.mpr ⟨List.mem_range.mpr (Heap.lt_size e'), by simp [q]⟩
    have z : (hidT h H).get? b = none := PySem.W.hideAll_none (trk h H) hm
    rw [z] at e; cases e

def allNews (g h : Heap) (L : Addr) : List (Addr × Obj) := (List.range h.objs.size).filterMap fun a => if a = L ∨ (g.get? a).isSome = true then none else (h.get? a).map fun o => (a, o)
def rest (g h : Heap) (L d : Addr) : List (Addr × Obj) := (allNews g h L).filter fun p => decide (p.1 ≠ d)
end L2

namespace L2
open PySem PySem.Spec PyProof.Rows

structure Mod (K : PySem.W.Frag) (mg : Str → Option Value) (base : Heap) : Prop where
  kin : K.In base
  glob : base.Ns mainGlobals mg
  blt : ∃ mb, base.Ns builtinsNs mb ∧ ∀ x : Str, x ≠ "__name__" → mb x = bootBuiltins x
  nolimit : base.NoLimit

structure Cx where
  prog : Program
  w : World
  K : PySem.W.Frag
  mg : Str → Option Value
  base : Heap
  A : Around
  N : List Str
  s₀ : Shared
  H₀ : Hp
  env : Env
  outer : List Env
  stack : List Env
  ex : List Addr
  fn : Str → Bool
  calm : Bool
  pn : List (Addr × Obj)
  xe : Value → Shared → Prop
def frs (l : List Env) : List Addr := l.filterMap (·.frame)
abbrev Cx.fs (X : Cx) : List Addr := frs X.outer

def Vis (sc : Scope) (x : Str) : Prop := sc.names.lookup x = some .local ∨ sc.names.lookup x = some .cell ∨ sc.names.lookup x = some .free
def Loc (sc : Scope) (x : Str) : Prop := sc.names.lookup x = some .local ∨ sc.names.lookup x = some .cell
def Look (env : Env) (h : Heap) (m : Str → Option Value) (x : Str) (u : Value) : Prop :=
  (env.kindOf x = some .local ∧ m x = some u) ∨ ((env.kindOf x = some .cell ∨ env.kindOf x = some .free) ∧ ∃ c, env.cells.lookup x = some c ∧ h.IsCell c (some u))

structure Cx.Ok (X : Cx) : Prop where
  mod : Mod X.K X.mg X.base
  kind : X.env.scope.kind = .function
  glob : X.env.globals = mainGlobals
  blt : X.env.builtins = builtinsNs
  above : X.s₀.heap.objs.size ≤ X.env.locals
  inj : ∀ x y c, X.env.cells.lookup x = some c → X.env.cells.lookup y = some c → x = y
  has : ∀ x, (X.env.kindOf x = some .cell ∨ X.env.kindOf x = some .free) → ∃ c, X.env.cells.lookup x = some c
  cab : ∀ x c, X.fn x = true → X.env.cells.lookup x = some c → X.s₀.heap.objs.size ≤ c
  hd : X.calm = true → X.A.handled = none
  frames : X.A.frames = some X.stack
  stk : X.stack = X.outer ∨ (X.stack = X.env :: X.outer ∧ X.env.frame = some X.env.locals)
  exf : ∀ b ∈ X.ex, b ≠ X.env.locals ∧ ∀ x c, X.env.cells.lookup x = some c → c ≠ b
  bs : ∀ b o, X.base.get? b = some o → X.s₀.heap.get? b = some o ∧ X.H₀ b = none
  bsz : X.base.objs.size ≤ X.s₀.heap.objs.size
  noex : ∀ b o, X.base.get? b = some o → b ∉ X.ex
  exfs : ∀ b ∈ X.ex, b ∉ X.fs
  funs : X.s₀.heap.FunFrames X.base X.outer
  frf : ∀ b ∈ X.fs, X.H₀ b = none

structure Inv (X : Cx) (pins : List (Addr × Obj)) (σ : List (Option V)) (H : Hp) (s : Shared) : Prop where
  ok : X.Ok
  os : s.os = X.s₀.os
  bare : AllBare s.gens
  base : Un X.fs X.ex X.H₀ H X.s₀.heap s.heap
  loc : ∃ m, s.heap.Ns X.env.locals m ∧ ∀ (i : Nat) (x : Str) (v : V), X.N[i]? = some x → σ[i]? = some (some v) → Vis X.env.scope x → ∃ u, RelV v u ∧ Look X.env s.heap m x u
  cell : ∀ x c, X.env.cells.lookup x = some c → ∃ v, s.heap.IsCell c v
  free : H X.env.locals = none
  freeC : ∀ x c, X.env.cells.lookup x = some c → H c = none
  pin : ∀ p ∈ X.pn ++ pins, s.heap.get? p.1 = some p.2 ∧ H p.1 = none ∧ p.1 ≠ X.env.locals ∧ p.1 ∉ X.fs ∧ ∀ v, p.2.data ≠ .cell v
  hok : HOk X.prog X.w H s.heap
  len : σ.length = X.N.length

section
variable {X : Cx} {pins : List (Addr × Obj)} {σ : List (Option V)} {H H' : Hp} {s : Shared} {h' : Heap}

theorem Cx.Ok.nofr (ok : X.Ok) {b : Addr} {o : Obj} (e : X.base.get? b = some o) : b ∉ X.fs := fun hb => by
  have := (ok.funs.mem hb).1
  rw [e] at this; cases this
theorem Inv.bs (I : Inv X pins σ H s) : ∀ b o, X.base.get? b = some o → s.heap.get? b = some o ∧ H b = none := fun b o e =>
  ⟨I.base.keep b o (I.ok.bs b o e).1 (I.ok.bs b o e).2 (I.ok.nofr e) (I.ok.noex b o e), I.base.free b o (I.ok.bs b o e).1 (I.ok.bs b o e).2 (I.ok.noex b o e)⟩
theorem Inv.bk (I : Inv X pins σ H s) : ∀ b o, X.base.get? b = some o → s.heap.get? b = some o := fun b o e => (I.bs b o e).1
theorem Inv.mod (I : Inv X pins σ H s) : Mod X.K X.mg X.base := I.ok.mod
theorem Inv.kIn (I : Inv X pins σ H s) : X.K.In s.heap := I.ok.mod.kin.keeps I.bk
theorem Inv.nolimit (I : Inv X pins σ H s) : s.heap.NoLimit := I.ok.mod.nolimit.keeps I.bk
theorem Inv.fr (I : Inv X pins σ H s) : ∃ m, Fr X.base X.env.locals s.heap m :=
  let ⟨m, hn, _⟩ := I.loc
  ⟨m, hn, I.bk, Nat.le_trans I.ok.bsz I.ok.above⟩
theorem Inv.lt (I : Inv X pins σ H s) : X.env.locals < s.heap.objs.size := let ⟨_, hn, _⟩ := I.loc; hn.lt
theorem Inv.sz (I : Inv X pins σ H s) : X.s₀.heap.objs.size ≤ s.heap.objs.size := Nat.le_trans I.ok.above (Nat.le_of_lt I.lt)
theorem Inv.nofs (I : Inv X pins σ H s) {a : Addr} (h : s.heap.objs.size ≤ a) : a ∉ X.fs := fun hb => by
  obtain ⟨_, o, ho, _⟩ := I.ok.funs.mem hb
  exact absurd (Nat.lt_of_lt_of_le (Heap.lt_size ho) (Nat.le_trans I.sz h)) (Nat.lt_irrefl _)
theorem Inv.cne (I : Inv X pins σ H s) : ∀ x c, X.env.cells.lookup x = some c → c ≠ X.env.locals := fun x c e z => by
  obtain ⟨v, o, ho, hd⟩ := I.cell x c e
  obtain ⟨m, ⟨o', es, ep, ho', hd', _⟩, _⟩ := I.loc
  rw [z, ho'] at ho; cases ho; rw [hd'] at hd; cases hd
theorem Inv.funs (I : Inv X pins σ H s) : s.heap.FunFrames X.base X.outer := by
  have all : ∀ (l : List Env), (∀ b ∈ frs l, b ∈ X.fs) → X.s₀.heap.FunFrames X.base l → s.heap.FunFrames X.base l := by
    intro l
    induction l with
    | nil => intro _ _; trivial
    | cons env r ih =>
      intro hs hl
      obtain ⟨hk, ⟨L, o, hf, hn, ho, hd⟩, hr⟩ := hl
      have hL : L ∈ X.fs := hs L (by unfold frs; rw [List.filterMap_cons, hf]; exact List.mem_cons_self)
      obtain ⟨sl, e⟩ := I.base.slot L o ho (I.ok.frf L hL) hL fun z => I.ok.exfs L z hL
      exact ⟨hk, ⟨L, _, hf, hn, e, hd⟩, ih (fun b hb => hs b (by unfold frs; rw [List.filterMap_cons, hf]; exact List.mem_cons_of_mem _ hb)) hr⟩
  exact all X.outer (fun _ hb => hb) I.ok.funs

theorem Inv.stack (I : Inv X pins σ H s) : s.heap.FunFrames X.base X.stack := by
  rcases I.ok.stk with e | ⟨e, hf⟩
  · rw [e]; exact I.funs
  · rw [e]
    obtain ⟨m, hn, _⟩ := I.loc
    refine .cons (by rw [I.ok.kind]; decide) hf hn ?_ I.funs
    exact Heap.get?_none_of_le (Nat.le_trans I.ok.bsz I.ok.above)
theorem Inv.stkSub (I : Inv X pins σ H s) : ∀ b ∈ frs X.stack, b ∈ X.env.locals :: X.fs := fun b hb => by
  rcases I.ok.stk with e | ⟨e, hf⟩
  · rw [e] at hb; exact List.mem_cons_of_mem _ hb
  · rw [e] at hb
    unfold frs at hb
    rw [List.filterMap_cons, hf] at hb
    exact hb
theorem Inv.stkFree (I : Inv X pins σ H s) : ∀ b ∈ frs X.stack, H b = none := fun b hb => by
  rcases List.mem_cons.mp (I.stkSub b hb) with e | hb
  · rw [e]; exact I.free
  · obtain ⟨_, o, ho, _⟩ := I.ok.funs.mem hb
    exact I.base.free b o ho (I.ok.frf b hb) fun z => I.ok.exfs b z hb

theorem Inv.step {g' : Array GenState} {t' : Nat} {d' : Drawn} {ch : List Addr} (I : Inv X pins σ H s)
    (hch : ∀ b ∈ ch, (b ∈ X.ex ∨ X.s₀.heap.objs.size ≤ b) ∧ b ≠ X.env.locals ∧ (∀ x c, X.env.cells.lookup x = some c → c ≠ b) ∧ ∀ p ∈ X.pn ++ pins, p.1 ≠ b)
    (keep : ∀ b o, b ≠ X.env.locals → b ∉ X.fs → b ∉ ch → s.heap.get? b = some o → H b = none → h'.get? b = some o)
    (slot : ∀ b o, b ≠ X.env.locals → b ∈ X.fs → b ∉ ch → s.heap.get? b = some o → H b = none → ∃ sl, h'.get? b = some { o with slots := sl }) (free : ∀ b o, b ∉ ch → s.heap.get? b = some o → H b = none → H' b = none)
    (there : ∀ b o, b ∉ ch → s.heap.get? b = some o → ∃ o', h'.get? b = some o')
    (tups : ∀ b xs, H b = some (.tup xs) → H' b = some (.tup xs)) (frzs : ∀ b o u, H b = some (.frz o u) → H' b = some (.frz o u)) (tbls : ∀ b ps, H b = some (.tbl ps) → ∃ more, H' b = some (.tbl (ps ++ more)))
    (ns : ∀ m, s.heap.Ns X.env.locals m → h'.Ns X.env.locals m) (hok : HOk X.prog X.w H' h') (hg : AllBare g') :
    Inv X pins σ H' { s with heap := h', gens := g', drawn := d', toks := t' } := by
  have neL : ∀ b o, X.s₀.heap.get? b = some o → b ≠ X.env.locals := fun b o e => Nat.ne_of_lt (Nat.lt_of_lt_of_le (Heap.lt_size e) I.ok.above)
  have neC : ∀ b o, X.s₀.heap.get? b = some o → b ∉ X.ex → b ∉ ch := fun b o e hx hb => by
    rcases (hch b hb).1 with z | z
    · exact hx z
    · exact absurd (Nat.lt_of_lt_of_le (Heap.lt_size e) z) (Nat.lt_irrefl _)
  have cellK : ∀ x c, X.env.cells.lookup x = some c → ∀ v, s.heap.IsCell c v → h'.IsCell c v := fun x c e v ⟨o, ho, hd⟩ => by
    have nch : c ∉ ch := fun z => (hch c z).2.2.1 x c e rfl
    by_cases hc : c ∈ X.fs
    · obtain ⟨sl, q⟩ := slot c o (I.cne x c e) hc nch ho (I.freeC x c e)
      exact ⟨_, q, hd⟩
    · exact ⟨o, keep c o (I.cne x c e) hc nch ho (I.freeC x c e), hd⟩
  refine ⟨I.ok, I.os, hg, ⟨fun b o e n hb hx => ?_, fun b o e n hb hx => ?_, fun b o e n hx => ?_, fun b o e hx => ?_, fun b xs e => tups b xs (I.base.tups b xs e), fun b o xs e => frzs b o xs (I.base.frzs b o xs e), fun b ps e => ?_⟩, ?_, fun x c e => ?_, ?_, fun x c e => ?_, fun p hp => ?_, hok, I.len⟩
  · exact keep b o (neL b o e) hb (neC b o e hx) (I.base.keep b o e n hb hx) (I.base.free b o e n hx)
  · obtain ⟨sl, e1⟩ := I.base.slot b o e n hb hx
    obtain ⟨sl', e2⟩ := slot b _ (neL b o e) hb (neC b o e hx) e1 (I.base.free b o e n hx)
    exact ⟨sl', e2⟩
  · obtain ⟨o', e1⟩ := I.base.there b o e hx
    exact free b o' (neC b o e hx) e1 (I.base.free b o e n hx)
  · obtain ⟨o', e1⟩ := I.base.there b o e hx
    exact there b o' (neC b o e hx) e1
  · obtain ⟨m1, e1⟩ := I.base.tbls b ps e
    obtain ⟨m2, e2⟩ := tbls b _ e1
    exact ⟨m1 ++ m2, by rw [e2, Array.append_assoc]⟩
  · obtain ⟨m, hn, hl⟩ := I.loc
    refine ⟨m, ns m hn, fun i x v e1 e2 e3 => ?_⟩
    obtain ⟨u, r, l⟩ := hl i x v e1 e2 e3
    refine ⟨u, r, ?_⟩
    rcases l with l | ⟨k, c, e, z⟩
    · exact .inl l
    · exact .inr ⟨k, c, e, cellK x c e _ z⟩
  · obtain ⟨v, z⟩ := I.cell x c e
    exact ⟨v, cellK x c e v z⟩
  · obtain ⟨m, ⟨o, _, _, ho, _⟩, _⟩ := I.loc
    exact free _ o (fun z => (hch _ z).2.1 rfl) ho I.free
  · obtain ⟨v, o, ho, hd⟩ := I.cell x c e
    exact free c o (fun z => (hch c z).2.2.1 x c e rfl) ho (I.freeC x c e)
  · obtain ⟨e, n, ne, nf, d⟩ := I.pin p hp
    have nch : p.1 ∉ ch := fun z => (hch p.1 z).2.2.2 p hp rfl
    exact ⟨keep p.1 p.2 ne nf nch e n, free p.1 p.2 nch e n, ne, nf, d⟩
theorem Inv.un {t' : Nat} (I : Inv X pins σ H s) (u : Un X.fs [] H H' s.heap h') (hok : HOk X.prog X.w H' h') : Inv X pins σ H' { s with heap := h', toks := t' } := by
  obtain ⟨m, ⟨o, es, ep, ho, r⟩, _⟩ := id I.loc
  obtain ⟨sl, hL⟩ := u.any ho I.free (by simp)
  exact I.step (g' := s.gens) (d' := s.drawn) (ch := []) (fun _ z => nomatch z) (fun b o _ hb _ e n => u.keep b o e n hb (by simp)) (fun b o _ hb _ e n => u.slot b o e n hb (by simp)) (fun b o _ e n => u.free b o e n (by simp)) (fun b o _ e => u.there b o e (by simp)) u.tups u.frzs u.tbls (fun m' hm => by
    obtain ⟨o', es', ep', ho', r'⟩ := hm
    rw [ho] at ho'; cases ho'
    exact ⟨_, es', ep', hL, r'⟩) hok I.bare
theorem Inv.call {g' : Array GenState} {t' : Nat} {d' : Drawn} {ch : List Addr} (I : Inv X pins σ H s) (u : Un (frs X.stack) ch H H' s.heap h') (hok : HOk X.prog X.w H' h') (hg : AllBare g')
    (hch : ∀ b ∈ ch, (b ∈ X.ex ∨ X.s₀.heap.objs.size ≤ b) ∧ b ≠ X.env.locals ∧ (∀ x c, X.env.cells.lookup x = some c → c ≠ b) ∧ ∀ p ∈ X.pn ++ pins, p.1 ≠ b) :
    Inv X pins σ H' { s with heap := h', gens := g', drawn := d', toks := t' } := by
  obtain ⟨m, ⟨o, es, ep, ho, r⟩, _⟩ := id I.loc
  obtain ⟨sl, hL⟩ := u.any ho I.free fun z => (hch _ z).2.1 rfl
  exact I.step (ch := ch) hch (fun b o hL hb hc e n => u.keep b o e n (fun z => (List.mem_cons.mp (I.stkSub b z)).elim hL hb) hc) (fun b o _ _ hc e n => u.any e n hc) (fun b o hc e n => u.free b o e n hc) (fun b o hc e => u.there b o e hc) u.tups u.frzs u.tbls (fun m' hm => by
    obtain ⟨o', es', ep', ho', r'⟩ := hm
    rw [ho] at ho'; cases ho'
    exact ⟨_, es', ep', hL, r'⟩) hok hg
theorem Inv.turned {t' : Nat} {it : Addr} (I : Inv X pins σ H s) (k : ∀ b o, b ≠ it → s.heap.get? b = some o → h'.get? b = some o) (hn : H it = none) (hL : it ≠ X.env.locals)
    (h1 : it ∈ X.ex ∨ X.s₀.heap.objs.size ≤ it) (h2 : ∀ x c, X.env.cells.lookup x = some c → c ≠ it) (h3 : ∀ p ∈ X.pn ++ pins, p.1 ≠ it) : Inv X pins σ H { s with heap := h', toks := t' } := by
  have nit : ∀ b u, H b = some u → b ≠ it := fun b u e z => by rw [z, hn] at e; cases e
  refine I.step (g' := s.gens) (d' := s.drawn) (ch := [it]) (fun b hb => ?_) (fun b o _ _ hc e _ => k b o (fun z => hc (by simp [z])) e) (fun b o _ _ hc e _ => ⟨o.slots, k b o (fun z => hc (by simp [z])) e⟩) (fun _ _ _ _ n => n)
    (fun b o hc e => ⟨o, k b o (fun z => hc (by simp [z])) e⟩) (fun _ _ e => e) (fun _ _ _ e => e) (fun b ps e => ⟨#[], by rw [e]; simp⟩) (fun m hm => ?_) (fun b u e => ?_) I.bare
  · have e : b = it := by simpa using hb
    subst e
    exact ⟨h1, hL, h2, h3⟩
  · obtain ⟨o, es, ep, ho, r⟩ := hm
    exact ⟨o, es, ep, k _ o (Ne.symm hL) ho, r⟩
  · refine (I.hok b u e).stay (fun c v hc q => k c v ?_ q) (fun _ q => q) fun _ _ q => q
    rcases hc with z | z
    · rw [z]; exact nit b u e
    · exact nit c _ z
theorem Inv.tok (I : Inv X pins σ H s) (t : Nat) : Inv X pins σ H { s with toks := t } := I.un (h' := s.heap) (t' := t) Un.refl I.hok
theorem Inv.kept {t' : Nat} (I : Inv X pins σ H s) (k : ∀ b u, s.heap.get? b = some u → h'.get? b = some u) : Inv X pins σ H { s with heap := h', toks := t' } := I.un (Un.kept k) (I.hok.kept k)
theorem Inv.laid {a : Addr} {o : HO} {t' : Nat} (I : Inv X pins σ H s) (k : ∀ b u, s.heap.get? b = some u → h'.get? b = some u) (hp : s.heap.objs.size ≤ a) (new : ObjOk X.prog X.w (upd H a o) h' a o) :
    Inv X pins σ (upd H a o) { s with heap := h', toks := t' } := I.un (Un.laid k hp (I.hok.fresh hp)) (I.hok.laid k hp new)
theorem Inv.write {x e : Addr} {o : HO} {t' : Nat} (I : Inv X pins σ H s) (mu : Mut (H x)) (he : e = x ∨ H e = some (.own x)) (k : ∀ b u, b ≠ e → s.heap.get? b = some u → h'.get? b = some u) (heo : ∃ u, h'.get? e = some u)
    (new : ObjOk X.prog X.w (upd H x o) h' x o) : Inv X pins σ (upd H x o) { s with heap := h', toks := t' } := I.un (Un.write mu he k heo) (I.hok.write mu he k heo new)
theorem Inv.pins_of {pins' : List (Addr × Obj)} (I : Inv X pins σ H s) (h : ∀ p ∈ pins', s.heap.get? p.1 = some p.2 ∧ H p.1 = none ∧ p.1 ≠ X.env.locals ∧ p.1 ∉ X.fs ∧ ∀ v, p.2.data ≠ .cell v) : Inv X pins' σ H s :=
  ⟨I.ok, I.os, I.bare, I.base, I.loc, I.cell, I.free, I.freeC, fun p hp => (List.mem_append.mp hp).elim (fun z => I.pin p (List.mem_append_left _ z)) (h p), I.hok, I.len⟩

theorem nodup_ix {N : List Str} (hN : N.Nodup) {i j : Nat} {x : Str} (a : N[i]? = some x) (b : N[j]? = some x) : i = j := by
  obtain ⟨h1, e1⟩ := List.getElem?_eq_some_iff.mp a
  obtain ⟨h2, e2⟩ := List.getElem?_eq_some_iff.mp b
  exact (List.getElem_inj hN).mp (e1.trans e2.symm)

theorem store_ok2 {M : Model} {A : Around} {E : Value → Shared → Prop} {i : Nat} {x : Str} {v : V} {u : Value} {Q : Unit → Shared → Prop} (I : Inv X pins σ H s) (hN : X.N.Nodup) (hi : X.N[i]? = some x) (hx : Loc X.env.scope x) (r : RelV v u)
    (h : ∀ s', Inv X pins (σ.set i (some v)) H s' → (∃ a, Heap.SameBut a s.heap s'.heap ∧ (a = X.env.locals ∨ X.env.cells.lookup x = some a)) → Q () s') (hf : X.fn x = true ∨ X.env.scope.names.lookup x = some .local := by first | exact .inl rfl | exact .inr rfl | assumption) : wpAny M A (storeName X.env x u) Q E s := by
  obtain ⟨m, hn, hl⟩ := id I.loc
  have hcls : (X.env.scope.kind == .class || (X.env.scope.kind == .module && X.env.locals != X.env.globals)) = false := by rw [I.ok.kind]; rfl
  have hiσ : i < σ.length := by rw [I.len]; exact (List.getElem?_eq_some_iff.mp hi).1
  have cne := I.cne
  have tracked : ∀ {a : Addr} {h' : Heap}, (∃ o, s.heap.get? a = some o ∧ H a = none) → Heap.SameBut a s.heap h' → HOk X.prog X.w H h' := fun {a h'} ha hs b ob e => by
    obtain ⟨_, _, hfree⟩ := ha
    refine (I.hok b ob e).stay (fun c w' hc q => (hs.2 c ?_).trans q) (fun _ q => q) fun _ _ q => q
    rintro rfl
    rcases hc with rfl | hc
    · rw [hfree] at e; cases e
    · rw [hfree] at hc; cases hc
  rcases hx with hk | hk
  · refine wpAny_storeName_local hk hn (fun h' hn' hs => ?_) hcls
    obtain ⟨oL, _, _, hoL, _⟩ := id hn
    refine h _ ⟨I.ok, I.os, I.bare, ⟨fun b o e n hb hx => ?_, fun b o e n hb hx => ?_, I.base.free, fun b o e hx => ?_, I.base.tups, I.base.frzs, I.base.tbls⟩, ⟨_, hn', fun j y v' e1 e2 e3 => ?_⟩, fun y c e => ?_, I.free, I.freeC, fun p hp => ?_, tracked ⟨oL, hoL, I.free⟩ hs, by simpa using I.len⟩ ⟨_, hs, .inl rfl⟩
    · exact (hs.2 b (Nat.ne_of_lt (Nat.lt_of_lt_of_le (Heap.lt_size e) I.ok.above))).trans (I.base.keep b o e n hb hx)
    · obtain ⟨sl, e1⟩ := I.base.slot b o e n hb hx
      exact ⟨sl, (hs.2 b (Nat.ne_of_lt (Nat.lt_of_lt_of_le (Heap.lt_size e) I.ok.above))).trans e1⟩
    · obtain ⟨o', e1⟩ := I.base.there b o e hx
      exact ⟨o', (hs.2 b (Nat.ne_of_lt (Nat.lt_of_lt_of_le (Heap.lt_size e) I.ok.above))).trans e1⟩
    · by_cases hj : j = i
      · subst hj
        rw [hi] at e1; cases e1
        rw [List.getElem?_set_self hiσ] at e2
        cases e2
        exact ⟨u, r, .inl ⟨hk, by simp⟩⟩
      · rw [List.getElem?_set_ne (Ne.symm hj)] at e2
        obtain ⟨u', r', q⟩ := hl j y v' e1 e2 e3
        refine ⟨u', r', ?_⟩
        rcases q with ⟨k, e⟩ | ⟨k, c, e, z⟩
        · refine .inl ⟨k, ?_⟩
          have : y ≠ x := fun e => hj (nodup_ix hN e1 (e ▸ hi))
          simp [this, e]
        · exact .inr ⟨k, c, e, z.sameBut hs (cne y c e)⟩
    · obtain ⟨w', z⟩ := I.cell y c e
      exact ⟨w', z.sameBut hs (cne y c e)⟩
    · obtain ⟨e, n, ne, nf, d⟩ := I.pin p hp
      exact ⟨(hs.2 p.1 ne).trans e, n, ne, nf, d⟩
  · have hfn : X.fn x = true := by
      rcases hf with z | z
      · exact z
      · rw [z] at hk; cases hk
    obtain ⟨c, hc⟩ := I.ok.has x (.inl hk)
    obtain ⟨w', z⟩ := I.cell x c hc
    refine wpAny_storeName_cell I.ok.kind hk hc z (fun h' hc' hs => ?_)
    obtain ⟨oc, hoc, hocd⟩ := id z
    refine h { s with heap := h' } ⟨I.ok, I.os, I.bare, ⟨fun b o e n hb hx => ?_, fun b o e n hb hx => ?_, I.base.free, fun b o e hx => ?_, I.base.tups, I.base.frzs, I.base.tbls⟩, ⟨m, hn.sameBut hs (Ne.symm (cne x c hc)), fun j y v' e1 e2 e3 => ?_⟩, fun y c' e => ?_, I.free, I.freeC, fun p hp => ?_, tracked ⟨oc, hoc, I.freeC x c hc⟩ hs, by simpa using I.len⟩ ⟨c, hs, .inr hc⟩
    · exact (hs.2 b (Nat.ne_of_lt (Nat.lt_of_lt_of_le (Heap.lt_size e) (I.ok.cab x c hfn hc)))).trans (I.base.keep b o e n hb hx)
    · obtain ⟨sl, e1⟩ := I.base.slot b o e n hb hx
      exact ⟨sl, (hs.2 b (Nat.ne_of_lt (Nat.lt_of_lt_of_le (Heap.lt_size e) (I.ok.cab x c hfn hc)))).trans e1⟩
    · obtain ⟨o', e1⟩ := I.base.there b o e hx
      exact ⟨o', (hs.2 b (Nat.ne_of_lt (Nat.lt_of_lt_of_le (Heap.lt_size e) (I.ok.cab x c hfn hc)))).trans e1⟩
    · by_cases hj : j = i
      · subst hj
        rw [hi] at e1; cases e1
        rw [List.getElem?_set_self hiσ] at e2
        cases e2
        exact ⟨u, r, .inr ⟨.inl hk, c, hc, hc'⟩⟩
      · rw [List.getElem?_set_ne (Ne.symm hj)] at e2
        obtain ⟨u', r', q⟩ := hl j y v' e1 e2 e3
        refine ⟨u', r', ?_⟩
        rcases q with q | ⟨k, c', e, z'⟩
        · exact .inl q
        · refine .inr ⟨k, c', e, z'.sameBut hs ?_⟩
          rintro rfl
          exact hj (nodup_ix hN e1 (I.ok.inj _ _ _ e hc ▸ hi))
    · by_cases hcc : c' = c
      · subst hcc; exact ⟨_, hc'⟩
      · obtain ⟨w2, z2⟩ := I.cell y c' e
        exact ⟨w2, z2.sameBut hs hcc⟩
    · obtain ⟨e, n, ne, nf, d⟩ := I.pin p hp
      refine ⟨(hs.2 p.1 ?_).trans e, n, ne, nf, d⟩
      intro q
      rw [q, hoc] at e
      have q' : oc = p.2 := Option.some.inj e
      exact d w' (by rw [← q']; exact hocd)
theorem store_ok {M : Model} {A : Around} {E : Value → Shared → Prop} {i : Nat} {x : Str} {v : V} {u : Value} {Q : Unit → Shared → Prop} (I : Inv X pins σ H s) (hN : X.N.Nodup) (hi : X.N[i]? = some x) (hx : Loc X.env.scope x) (r : RelV v u)
    (h : ∀ s', Inv X pins (σ.set i (some v)) H s' → Q () s') (hf : X.fn x = true ∨ X.env.scope.names.lookup x = some .local := by first | exact .inl rfl | exact .inr rfl | assumption) : wpAny M A (storeName X.env x u) Q E s :=
  store_ok2 I hN hi hx r (fun s' I' _ => h s' I') hf
theorem Inv.call' {s' : Shared} {ch : List Addr} (I : Inv X pins σ H s) (ho : s'.os = s.os) (u : Un (frs X.stack) ch H H' s.heap s'.heap) (hok : HOk X.prog X.w H' s'.heap) (hg : AllBare s'.gens)
    (hch : ∀ b ∈ ch, (b ∈ X.ex ∨ X.s₀.heap.objs.size ≤ b) ∧ b ≠ X.env.locals ∧ (∀ x c, X.env.cells.lookup x = some c → c ≠ b) ∧ ∀ p ∈ X.pn ++ pins, p.1 ≠ b) : Inv X pins σ H' s' := by
  obtain ⟨h', g', d', t', o'⟩ := s'
  have e : o' = s.os := ho
  subst e
  exact I.call (g' := g') (t' := t') (d' := d') u hok hg hch
end

abbrev XK := Value → Option Addr → Hp → Prop
abbrev St := List (Option V)
abbrev VK := V → Hp → Prop
abbrev TE := St → Hp → VK → Prop
abbrev TT := St → Hp → (Bool → Hp → Prop) → Prop
abbrev TA := St → Hp → (List V → Hp → Prop) → Prop
structure Ends where
  nx : St → Hp → Prop
  rt : VK
  bk : St → Hp → Prop := fun _ _ => False
  ct : St → Hp → Prop := fun _ _ => False
abbrev TS := Ends → St → Hp → Prop

def EP (X : Cx) (pins : List (Addr × Obj)) (σ : St) (Q : VK) (u : Value) (s' : Shared) : Prop := ∃ v H', Inv X pins σ H' s' ∧ RelV v u ∧ Q v H'
def TP (X : Cx) (pins : List (Addr × Obj)) (σ : St) (Q : Bool → Hp → Prop) (b : Bool) (s' : Shared) : Prop := ∃ H', Inv X pins σ H' s' ∧ Q b H'
def AP (X : Cx) (pins : List (Addr × Obj)) (σ : St) (Q : List V → Hp → Prop) (us : List Value) (s' : Shared) : Prop := ∃ vs H', Inv X pins σ H' s' ∧ Vals vs us ∧ Q vs H'
def SP (X : Cx) (pins : List (Addr × Obj)) (D : Ends) (f : Flow) (s' : Shared) : Prop :=
  match f with
  | .next => ∃ σ' H', Inv X pins σ' H' s' ∧ D.nx σ' H'
  | .brk => ∃ σ' H', Inv X pins σ' H' s' ∧ D.bk σ' H'
  | .cont => ∃ σ' H', Inv X pins σ' H' s' ∧ D.ct σ' H'
  | .ret u => ∃ v σ' H', Inv X pins σ' H' s' ∧ RelV v u ∧ D.rt v H'

def PE (X : Cx) (e : Expr) (t : TE) : Prop :=
  ∀ (pins : List (Addr × Obj)) (s : Shared) (σ : St) (H : Hp) (Q : VK), Inv X pins σ H s → t σ H Q → wpAny (model X.prog X.w) X.A (eval e X.env) (EP X pins σ Q) X.xe s
def PT (X : Cx) (e : Expr) (t : TT) : Prop :=
  ∀ (pins : List (Addr × Obj)) (s : Shared) (σ : St) (H : Hp) (Q : Bool → Hp → Prop), Inv X pins σ H s → t σ H Q → wpAny (model X.prog X.w) X.A (isTrue e X.env (eval e X.env)) (TP X pins σ Q) X.xe s
def PW (X : Cx) (e : Expr) (t : TT) : Prop :=
  ∀ (whole : Sem Value) (pins : List (Addr × Obj)) (s : Shared) (σ : St) (H : Hp) (Q : Bool → Hp → Prop), Inv X pins σ H s → t σ H Q → wpAny (model X.prog X.w) X.A (isTrue e X.env whole) (TP X pins σ Q) X.xe s
theorem PW.pt {X : Cx} {e : Expr} {t : TT} (h : PW X e t) : PT X e t := h _
def PA (X : Cx) (es : List Expr) (t : TA) : Prop :=
  ∀ (pos : Pos) (pins : List (Addr × Obj)) (s : Shared) (σ : St) (H : Hp) (Q : List V → Hp → Prop), Inv X pins σ H s → t σ H Q → wpAny (model X.prog X.w) X.A (spliced (backTo pos (starEach es X.env))) (AP X pins σ Q) X.xe s
def PS (X : Cx) (st : Stmt) (t : TS) : Prop :=
  ∀ (pins : List (Addr × Obj)) (s : Shared) (σ : St) (H : Hp) (D : Ends), Inv X pins σ H s → t D σ H → wpAny (model X.prog X.w) X.A (exec st X.env) (SP X pins D) X.xe s
def PSs (X : Cx) (st : List Stmt) (t : TS) : Prop :=
  ∀ (pins : List (Addr × Obj)) (s : Shared) (σ : St) (H : Hp) (D : Ends), Inv X pins σ H s → t D σ H → wpAny (model X.prog X.w) X.A (execs st X.env) (SP X pins D) X.xe s
theorem thn {α : Type} {t : Sem α} {Q Q' : α → Shared → Prop} {M : Model} {A : Around} {E : Value → Shared → Prop} {s : Shared} (h : wpAny M A t Q E s) (hQ : ∀ a s, Q a s → Q' a s) : wpAny M A t Q' E s := wpAny_mono h hQ fun _ _ x => x
end L2

namespace L2
open PySem PySem.Spec PyProof.Rows
section
variable {X : Cx}


def tVar (i : Nat) : TE := fun σ H Q => ∃ v, σ[i]? = some (some v) ∧ Q v H
def tC (v : V) : TE := fun _ H Q => Q v H
theorem pe_var {i : Nat} {x : Str} {pos : Pos} (hN : X.N[i]? = some x) (hv : Vis X.env.scope x) (hd : (x == ("__debug__" : Str)) = false := by decide) (hcd : (x == ("__classdict__" : Str)) = false := by decide) : PE X (.Name x pos) (tVar i) := by
  intro pins s σ H Q I h
  obtain ⟨v, e, h⟩ := h
  obtain ⟨m, hn, hl⟩ := I.loc
  obtain ⟨u, r, l⟩ := hl i x v hN e hv
  have fin : EP X pins σ Q u s := ⟨v, H, I, r, h⟩
  rcases l with ⟨hk, hm⟩ | ⟨hk, c, hc, hcell⟩
  · exact wpAny_Name (wpAny_loadName_local I.ok.kind hk hn hm fin) hd
  · rcases hk with hk | hk
    · exact wpAny_Name (wpAny_loadName_cell I.ok.kind hk hc hcell fin) hd
    · exact wpAny_Name (wpAny_loadName_free I.ok.kind hk hc hcell fin hcd) hd
theorem pe_int {i j pos} : PE X (.Constant (.int i) j pos) (tC (.int i)) := fun _ _ _ H _ I h => wpAny_Constant_int ⟨.int i, H, I.tok _, ⟨_, rfl⟩, h⟩
theorem pe_bl {b j pos} : PE X (.Constant (.bool b) j pos) (tC (.bl b)) := fun _ _ _ H _ I h => Constant_bool ⟨.bl b, H, I, rfl, h⟩
theorem pe_non {j pos} : PE X (.Constant .none j pos) (tC .non) := fun _ _ _ H _ I h => Constant_none ⟨.non, H, I, rfl, h⟩
theorem pe_str {x j pos} : PE X (.Constant (.str x) j pos) (tC (.str x)) := fun _ _ _ H _ I h => Calls.Constant_str ⟨.str x, H, I.tok _, ⟨_, rfl⟩, h⟩

def Gl (X : Cx) (x : Str) : Prop := X.env.kindOf x = some .globalImplicit
theorem ld_glob {E : Value → Shared → Prop} {pins : List (Addr × Obj)} {s : Shared} {σ : St} {H : Hp} {x : Str} {u : Value} {pos : Pos} {Q : Value → Shared → Prop} (I : Inv X pins σ H s) (hg : Gl X x) (hm : X.mg x = some u) (h : Q u s)
    (hd : (x == ("__debug__" : Str)) = false := by decide) : wpAny (model X.prog X.w) X.A (eval (.Name x pos) X.env) Q E s :=
  Calls.Name_function_global I.ok.kind hg (Calls.loadGlobal_global (by rw [I.ok.glob]; exact I.mod.glob.keeps I.bk) hm h) hd
theorem ld_blt {E : Value → Shared → Prop} {pins : List (Addr × Obj)} {s : Shared} {σ : St} {H : Hp} {x : Str} {u : Value} {pos : Pos} {Q : Value → Shared → Prop} (I : Inv X pins σ H s) (hg : Gl X x) (hm : X.mg x = none) (hv : bootBuiltins x = some u) (h : Q u s)
    (hn : x ≠ "__name__" := by decide) (hd : (x == ("__debug__" : Str)) = false := by decide) : wpAny (model X.prog X.w) X.A (eval (.Name x pos) X.env) Q E s := by
  obtain ⟨mb, h1, h2⟩ := I.mod.blt
  exact Calls.Name_function_global I.ok.kind hg (Calls.loadGlobal_builtin (by rw [I.ok.glob]; exact I.mod.glob.keeps I.bk) hm (by rw [I.ok.blt]; exact h1.keeps I.bk) ((h2 x hn).trans hv) h) hd
theorem pe_glob {x : Str} {v : V} {u : Value} {pos : Pos} (hg : Gl X x) (hm : X.mg x = some u) (r : RelV v u) (hd : (x == ("__debug__" : Str)) = false := by decide) : PE X (.Name x pos) (tC v) :=
  fun _ _ _ H _ I h => ld_glob I hg hm ⟨v, H, I, r, h⟩ hd
theorem pe_bltn {x : Str} {v : V} {u : Value} {pos : Pos} (hg : Gl X x) (hm : X.mg x = none) (hv : bootBuiltins x = some u) (r : RelV v u) (hn : x ≠ "__name__" := by decide) (hd : (x == ("__debug__" : Str)) = false := by decide) : PE X (.Name x pos) (tC v) :=
  fun _ _ _ H _ I h => ld_blt I hg hm hv ⟨v, H, I, r, h⟩ hn hd

variable {a b : Expr} {ta tb : TE} {pos : Pos}

def PC (X : Cx) (op : CmpOp) (a b : Expr) (t : TE) : Prop :=
  ∀ (pins : List (Addr × Obj)) (s : Shared) (σ : St) (H : Hp) (Q : VK), Inv X pins σ H s → t σ H Q →
    wpAny (model X.prog X.w) X.A (eval a X.env) (fun v s₁ => wpAny (model X.prog X.w) X.A (eval b X.env) (fun u s₂ => wpAny (model X.prog X.w) X.A (compareOp op v u) (EP X pins σ Q) X.xe s₂) X.xe s₁) X.xe s
theorem nobehind (b : Expr) {op : CmpOp} (h : op ≠ .In) (h2 : op ≠ .NotIn) : behindInMarks op b = false := by
  have e1 : (op == CmpOp.In) = false := by cases op <;> first | rfl | exact absurd rfl h
  have e2 : (op == CmpOp.NotIn) = false := by cases op <;> first | rfl | exact absurd rfl h2
  cases b <;> simp [behindInMarks, e1, e2]
def tIsN (ta : TE) : TE := fun σ H Q => ta σ H fun x H1 => Q (.bl (decide (x = .non))) H1
def tNotN (ta : TE) : TE := fun σ H Q => ta σ H fun x H1 => Q (.bl (!decide (x = .non))) H1
theorem RelV.none_iff {x : V} {v : Value} (r : RelV x v) : (v == Value.none) = decide (x = .non) := by
  cases x with
  | non => cases r; rfl
  | bl _ => cases r; rfl
  | int _ => obtain ⟨t, rfl⟩ := r; rfl
  | str _ => obtain ⟨t, rfl⟩ := r; rfl
  | byt _ => obtain ⟨t, rfl⟩ := r; rfl
  | flt _ => obtain ⟨t, rfl⟩ := r; rfl
  | ref _ => cases r; rfl
  | ty _ => cases r; rfl
theorem pc_isN {j pos'} (ha : PE X a ta) : PC X .Is a (.Constant .none j pos') (tIsN ta) := by
  intro pins s σ H Q I h
  refine thn (ha pins s σ H _ I h) fun v s1 ⟨x, H1, I1, r1, q1⟩ => ?_
  exact Constant_none (is_none_gen ⟨.bl _, H1, I1, by rw [r1.none_iff]; rfl, q1⟩)
theorem pc_notN {j pos'} (ha : PE X a ta) : PC X .IsNot a (.Constant .none j pos') (tNotN ta) := by
  intro pins s σ H Q I h
  refine thn (ha pins s σ H _ I h) fun v s1 ⟨x, H1, I1, r1, q1⟩ => ?_
  exact Constant_none (isnot_none_gen ⟨.bl _, H1, I1, by rw [r1.none_iff]; rfl, q1⟩)
def tB (t : TE) : TT := fun σ H Q => t σ H fun x H1 => ∃ c, x = .bl c ∧ Q c H1
theorem pe_cmp {op : CmpOp} {t : TE} (h : PC X op a b t) (h1 : behindInMarks op b = false := by first | exact nobehind _ (by decide) (by decide) | rfl) : PE X (.Compare a [op] [b] pos) t := fun pins s σ H Q I hw => wpAny_Compare1 (h pins s σ H Q I hw) h1
theorem pt_cmp {op : CmpOp} {t : TE} (h : PC X op a b t) (h1 : behindInMarks op b = false := by first | exact nobehind _ (by decide) (by decide) | rfl) : PT X (.Compare a [op] [b] pos) (tB t) := by
  intro pins s σ H Q I hw
  refine wpAny_isTrue_Compare1 (thn (h pins s σ H _ I hw) fun v s1 h1 => thn h1 fun u s2 h2 => thn h2 fun c s3 ⟨x, H1, I1, r1, q1⟩ => ?_) h1
  obtain ⟨d, rfl, q⟩ := q1
  cases r1
  exact wpAny_truthy_bool ⟨H1, I1, q⟩
theorem pt_val {e : Expr} {t : TE} (h : PE X e t) (he : ∀ whole, isTrue e X.env whole = (do let v ← whole; standAt e.pos; holding [v] (truthy v)) := by intro _; rfl) : PT X e (tB t) := by
  intro pins s σ H Q I hw
  refine isTrue_plain (thn (h pins s σ H _ I hw) fun v s1 ⟨x, H1, I1, r1, q1⟩ => ?_) (he _)
  obtain ⟨d, rfl, q⟩ := q1
  cases r1
  exact wpAny_truthy_bool ⟨H1, I1, q⟩

variable {tA tB' : TT} {rest : List Expr}
def tAnd (t u : TT) : TT := fun σ H Q => t σ H fun c H1 => if c = true then u σ H1 Q else Q false H1
def tOr (t u : TT) : TT := fun σ H Q => t σ H fun c H1 => if c = true then Q true H1 else u σ H1 Q
def tNot (t : TT) : TT := fun σ H Q => t σ H fun c H1 => Q (!c) H1
theorem pw_and1 (ha : PT X a tA) : PW X (.BoolOp .And [a] pos) tA := by
  intro wh pins s σ H Q I h
  refine isTrue_and (thn (ha pins s σ H Q I h) fun c s1 e => ?_)
  cases c with
  | true => exact isTrue_and_nil e
  | false => exact e
theorem pw_or1 (ha : PT X a tA) : PW X (.BoolOp .Or [a] pos) tA := by
  intro wh pins s σ H Q I h
  refine isTrue_or (thn (ha pins s σ H Q I h) fun c s1 e => ?_)
  cases c with
  | false => exact isTrue_or_nil e
  | true => exact e
theorem pw_and (ha : PT X a tA) (hb : PW X (.BoolOp .And (b :: rest) pos) tB') : PW X (.BoolOp .And (a :: b :: rest) pos) (tAnd tA tB') := by
  intro wh pins s σ H Q I h
  refine isTrue_and (thn (ha pins s σ H _ I h) fun c s1 ⟨H1, I1, q1⟩ => ?_)
  cases c with
  | true => exact hb wh pins s1 σ H1 Q I1 q1
  | false => exact ⟨H1, I1, q1⟩
theorem pw_or (ha : PT X a tA) (hb : PW X (.BoolOp .Or (b :: rest) pos) tB') : PW X (.BoolOp .Or (a :: b :: rest) pos) (tOr tA tB') := by
  intro wh pins s σ H Q I h
  refine isTrue_or (thn (ha pins s σ H _ I h) fun c s1 ⟨H1, I1, q1⟩ => ?_)
  cases c with
  | true => exact ⟨H1, I1, q1⟩
  | false => exact hb wh pins s1 σ H1 Q I1 q1
theorem pt_not (ha : PT X a tA) : PT X (.UnaryOp .Not a pos) (tNot tA) := by
  intro pins s σ H Q I h
  exact isTrue_not (ha pins s σ H (fun c H1 => Q (!c) H1) I h)
def tAndV (ta tb : TE) : TE := fun σ H Q => ta σ H fun x H1 => ∃ c, x = .bl c ∧ if c = true then tb σ H1 Q else Q (.bl false) H1
def tOrV (ta tb : TE) : TE := fun σ H Q => ta σ H fun x H1 => ∃ c, x = .bl c ∧ if c = true then Q (.bl true) H1 else tb σ H1 Q
def tNotV (ta : TE) : TE := fun σ H Q => ta σ H fun x H1 => ∃ c, x = .bl c ∧ Q (.bl (!c)) H1
theorem pe_one {op} {t : TE} (h : PE X a t) : PE X (.BoolOp op [a] pos) t := fun pins s σ H Q I hw => BoolOp_one (h pins s σ H Q I hw)
theorem pe_and (ha : PE X a ta) (hb : PE X (.BoolOp .And (b :: rest) pos) tb) : PE X (.BoolOp .And (a :: b :: rest) pos) (tAndV ta tb) := by
  intro pins s σ H Q I h
  refine BoolOp_and (thn (ha pins s σ H _ I h) fun v s1 ⟨x, H1, I1, r1, q1⟩ => ?_)
  obtain ⟨c, rfl, q1⟩ := q1
  cases r1
  refine wpAny_truthy_bool ?_
  cases c with
  | true => exact hb pins s1 σ H1 Q I1 q1
  | false => exact ⟨.bl false, H1, I1, rfl, q1⟩
theorem pe_or (ha : PE X a ta) (hb : PE X (.BoolOp .Or (b :: rest) pos) tb) : PE X (.BoolOp .Or (a :: b :: rest) pos) (tOrV ta tb) := by
  intro pins s σ H Q I h
  refine BoolOp_or (thn (ha pins s σ H _ I h) fun v s1 ⟨x, H1, I1, r1, q1⟩ => ?_)
  obtain ⟨c, rfl, q1⟩ := q1
  cases r1
  refine wpAny_truthy_bool ?_
  cases c with
  | false => exact hb pins s1 σ H1 Q I1 q1
  | true => exact ⟨.bl true, H1, I1, rfl, q1⟩
theorem pe_not (ha : PE X a ta) : PE X (.UnaryOp .Not a pos) (tNotV ta) := by
  intro pins s σ H Q I h
  refine UnaryOp_ (thn (ha pins s σ H _ I h) fun v s1 ⟨x, H1, I1, r1, q1⟩ => ?_)
  obtain ⟨c, rfl, q1⟩ := q1
  cases r1
  exact not_of (wpAny_truthy_bool ⟨.bl (!c), H1, I1, rfl, q1⟩)
end
end L2

namespace L2
open PySem PySem.Spec PyProof.Rows

def SqL (K : PySem.W.Frag) (H : Hp) (a : Addr) (xs : List V) : Prop :=
  Rd H a (.lst xs) ∨
    ∃ (o : Obj) (its : Array Value) (n : Nat), K.lookup a = some o ∧ o.cls = .type "list" ∧ o.dict = none ∧ o.data = .seq its n ∧ its.size ≤ sizeLine ∧ Vals xs its.toList
def SqT (K : PySem.W.Frag) (H : Hp) (a : Addr) (xs : List V) : Prop :=
  Rd H a (.tup xs) ∨
    ∃ (o : Obj) (its : Array Value) (n : Nat), K.lookup a = some o ∧ o.cls = .type "tuple" ∧ o.data = .seq its n ∧ its.size ≤ sizeLine ∧ Vals xs its.toList
def absV : Value → Option V
  | .none => some .non
  | .bool b => some (.bl b)
  | .int i _ => some (.int i)
  | .str x _ => some (.str x)
  | .bytes b _ => some (.byt b)
  | .float b _ => some (.flt b)
  | .ref a => some (.ref a)
  | .type n => some (.ty n)
  | _ => none
theorem RelV.abs {x : V} {u : Value} (r : RelV x u) : absV u = some x := by
  cases x with
  | non => cases r; rfl
  | bl _ => cases r; rfl
  | int _ => obtain ⟨t, rfl⟩ := r; rfl
  | str _ => obtain ⟨t, rfl⟩ := r; rfl
  | byt _ => obtain ⟨t, rfl⟩ := r; rfl
  | flt _ => obtain ⟨t, rfl⟩ := r; rfl
  | ref _ => cases r; rfl
  | ty _ => cases r; rfl
theorem RelV.inj {x y : V} {u : Value} (r : RelV x u) (q : RelV y u) : x = y := Option.some.inj (r.abs.symm.trans q.abs)
theorem Vals.inj : ∀ {xs ys : List V} {us : List Value}, Vals xs us → Vals ys us → xs = ys
  | _, _, _, .nil, .nil => rfl
  | _, _, _, .cons r t, .cons r' t' => by rw [r.inj r', Vals.inj t t']
section
variable {X : Cx} {pins : List (Addr × Obj)} {σ : St} {H : Hp} {s : Shared} {a : Addr} {xs ys : List V}
theorem SqL.of {K : PySem.W.Frag} (h : H a = some (.lst xs)) : SqL K H a xs := .inl (.inl h)
theorem SqT.of {K : PySem.W.Frag} (h : H a = some (.tup xs)) : SqT K H a xs := .inl (.inl h)
theorem Inv.list (I : Inv X pins σ H s) (h : SqL X.K H a xs) : ∃ its : List Value, Vals xs its ∧ PlainL s.heap a its.toArray ∧ xs.length ≤ sizeLine := by
  rcases h with h | ⟨o, its, n, hk, hc, hd, hs, hz, r⟩
  · obtain ⟨z, its, n, r, e⟩ := h.ok I.hok
    exact ⟨its, r, ⟨_, n, e, rfl, rfl, rfl⟩, z⟩
  · refine ⟨its.toList, r, ⟨o, n, I.kIn a o hk, hc, hd, by simpa using hs⟩, ?_⟩
    have e := r.length
    simp only [Array.length_toList] at e
    omega
theorem Inv.tuple (I : Inv X pins σ H s) (h : SqT X.K H a xs) : ∃ its : List Value, Vals xs its ∧ IsTup s.heap a its.toArray ∧ xs.length ≤ sizeLine := by
  rcases h with h | ⟨o, its, n, hk, hc, hs, hz, r⟩
  · obtain ⟨z, its, r, p⟩ := h.ok I.hok
    exact ⟨its, r, p, z⟩
  · refine ⟨its.toList, r, ⟨o, I.kIn a o hk, hc, n, by simpa using hs⟩, ?_⟩
    have e := r.length
    simp only [Array.length_toList] at e
    omega
theorem Inv.list_inj (I : Inv X pins σ H s) (h : SqL X.K H a xs) (h' : SqL X.K H a ys) : xs = ys := by
  obtain ⟨its, r, ⟨o, n, e, _, _, d⟩, _⟩ := I.list h
  obtain ⟨its', r', ⟨o', n', e', _, _, d'⟩, _⟩ := I.list h'
  rw [e] at e'; cases e'
  rw [d] at d'
  injection d' with d1 _
  have : its = its' := by simpa using congrArg Array.toList d1
  subst this
  exact r.inj r'
theorem Inv.tuple_inj (I : Inv X pins σ H s) (h : SqT X.K H a xs) (h' : SqT X.K H a ys) : xs = ys := by
  obtain ⟨its, r, ⟨o, e, _, n, d⟩, _⟩ := I.tuple h
  obtain ⟨its', r', ⟨o', e', _, n', d'⟩, _⟩ := I.tuple h'
  rw [e] at e'; cases e'
  rw [d] at d'
  injection d' with d1 _
  have : its = its' := by simpa using congrArg Array.toList d1
  subst this
  exact r.inj r'
end

abbrev Cx.wish (X : Cx) (E : Value → Shared → Prop) : Cx := { X with xe := E }
abbrev Cx.nox (X : Cx) : Cx := X.wish fun _ _ => False
theorem Cx.Ok.wish {X : Cx} (ok : X.Ok) (E : Value → Shared → Prop) : (X.wish E).Ok :=
  ⟨ok.mod, ok.kind, ok.glob, ok.blt, ok.above, ok.inj, ok.has, ok.cab, ok.hd, ok.frames, ok.stk, ok.exf, ok.bs, ok.bsz, ok.noex, ok.exfs, ok.funs, ok.frf⟩
theorem Cx.Ok.unwish {X : Cx} {E : Value → Shared → Prop} (ok : (X.wish E).Ok) : X.Ok :=
  ⟨ok.mod, ok.kind, ok.glob, ok.blt, ok.above, ok.inj, ok.has, ok.cab, ok.hd, ok.frames, ok.stk, ok.exf, ok.bs, ok.bsz, ok.noex, ok.exfs, ok.funs, ok.frf⟩
section
variable {X : Cx} {pins : List (Addr × Obj)} {σ : St} {H : Hp} {s : Shared} {E : Value → Shared → Prop}
theorem Inv.wish (I : Inv X pins σ H s) (E : Value → Shared → Prop) : Inv (X.wish E) pins σ H s := ⟨I.ok.wish E, I.os, I.bare, I.base, I.loc, I.cell, I.free, I.freeC, I.pin, I.hok, I.len⟩
theorem Inv.unwish (I : Inv (X.wish E) pins σ H s) : Inv X pins σ H s := ⟨I.ok.unwish, I.os, I.bare, I.base, I.loc, I.cell, I.free, I.freeC, I.pin, I.hok, I.len⟩
theorem SP.unwish {D : Ends} {f : Flow} {s' : Shared} (h : SP (X.wish E) pins D f s') : SP X pins D f s' := by
  cases f with
  | next => obtain ⟨σ', H', I, q⟩ := h; exact ⟨σ', H', I.unwish, q⟩
  | brk => obtain ⟨σ', H', I, q⟩ := h; exact ⟨σ', H', I.unwish, q⟩
  | cont => obtain ⟨σ', H', I, q⟩ := h; exact ⟨σ', H', I.unwish, q⟩
  | ret u => obtain ⟨v, σ', H', I, r, q⟩ := h; exact ⟨v, σ', H', I.unwish, r, q⟩
theorem PE.nox {e : Expr} {t : TE} (h : PE X.nox e t) : PE X e t := fun pins s σ H Q I hw =>
  wpAny_mono (h pins s σ H Q (I.wish _) hw) (fun _ _ ⟨v, H', I', r, q⟩ => ⟨v, H', I'.unwish, r, q⟩) fun _ _ z => False.elim z
theorem PT.nox {e : Expr} {t : TT} (h : PT X.nox e t) : PT X e t := fun pins s σ H Q I hw =>
  wpAny_mono (h pins s σ H Q (I.wish _) hw) (fun _ _ ⟨H', I', q⟩ => ⟨H', I'.unwish, q⟩) fun _ _ z => False.elim z
theorem PSs.nox {st : List Stmt} {t : TS} (h : PSs X.nox st t) : PSs X st t := fun pins s σ H D I hw =>
  wpAny_mono (h pins s σ H D (I.wish _) hw) (fun _ _ q => q.unwish) fun _ _ z => False.elim z
end

section
variable {X : Cx} {st : Stmt} {rest : List Stmt} {t u : TS} {e : Expr} {te : TE} {pos : Pos}
def tNext : TS := fun D σ H => D.nx σ H
def tSeq (t u : TS) : TS := fun D σ H => t { D with nx := u D } σ H
theorem pss_nil : PSs X [] tNext := fun _ _ σ H _ I h => wpAny_execs_nil ⟨σ, H, I, h⟩
theorem pss_cons (h1 : PS X st t) (h2 : PSs X rest u) : PSs X (st :: rest) (tSeq t u) := by
  intro pins s σ H D I h
  refine wpAny_execs_cons (thn (h1 pins s σ H { D with nx := u D } I h) fun f s1 q => ?_)
  cases f with
  | next =>
    obtain ⟨σ', H', I', q⟩ := q
    exact h2 pins s1 σ' H' D I' q
  | ret v => exact q
  | brk => exact q
  | cont => exact q
theorem pss_one (h1 : PS X st t) : PSs X [st] t := by
  intro pins s σ H D I h
  refine wpAny_execs_cons (thn (h1 pins s σ H D I h) fun f s1 q => ?_)
  cases f with
  | next => exact wpAny_execs_nil q
  | ret v => exact q
  | brk => exact q
  | cont => exact q
theorem Inv.quiet {pins : List (Addr × Obj)} {σ : St} {H : Hp} {s : Shared} (I : Inv X pins σ H s) : interactive X.env = false := by simp [interactive, I.ok.kind]
def tDrop (te : TE) : TS := fun D σ H => te σ H fun _ H1 => D.nx σ H1
theorem ps_expr (he : PE X e te) (hs : swapsWith e none pos.line X.env = pure false := by rfl) : PS X (.Expr e pos) (tDrop te) := by
  intro pins s σ H D I h
  exact wpAny_Expr_any (thn (he pins s σ H _ I h) fun v s1 ⟨x, H1, I1, r1, q1⟩ => ⟨σ, H1, I1, q1⟩) I.quiet hs
def tRet (te : TE) : TS := fun D σ H => te σ H D.rt
theorem ps_ret (he : PE X e te) : PS X (.Return (some e) pos) (tRet te) := by
  intro pins s σ H D I h
  exact wpAny_Return_some (thn (he pins s σ H _ I h) fun v s1 ⟨x, H1, I1, r1, q1⟩ => ⟨x, σ, H1, I1, r1, q1⟩)
def tIfS (c : TT) (t u : TS) : TS := fun D σ H => c σ H fun b H1 => if b = true then t D σ H1 else u D σ H1
theorem ps_if {c : Expr} {a b : List Stmt} {tc : TT} (hc : PT X c tc) (ha : PSs X a t) (hb : PSs X b u) : PS X (.If c a b pos) (tIfS tc t u) := by
  intro pins s σ H D I h
  refine wpAny_If (thn (hc pins s σ H _ I h) fun d s1 ⟨H1, I1, q1⟩ => ?_)
  cases d with
  | true => exact ha pins s1 σ H1 D I1 q1
  | false => exact hb pins s1 σ H1 D I1 q1
def tNever : TS := fun _ _ _ => False
theorem ps_never : PS X st tNever := fun _ _ _ _ _ _ h => h.elim
end

abbrev TG := V → St → Hp → (St → Hp → Prop) → Prop
abbrev TGs := List V → St → Hp → (St → Hp → Prop) → Prop
def PG (X : Cx) (target : Expr) (t : TG) : Prop :=
  ∀ (pins : List (Addr × Obj)) (s : Shared) (σ : St) (H : Hp) (v : V) (u : Value) (Q : St → Hp → Prop), Inv X pins σ H s → RelV v u → t v σ H Q →
    wpAny (model X.prog X.w) X.A (assign target X.env u) (fun _ s' => ∃ σ' H', Inv X pins σ' H' s' ∧ Q σ' H') X.xe s
def PGs (X : Cx) (ts : List Expr) (t : TGs) : Prop :=
  ∀ (pins : List (Addr × Obj)) (s : Shared) (σ : St) (H : Hp) (vs : List V) (us : List Value) (Q : St → Hp → Prop), Inv X pins σ H s → Vals vs us → t vs σ H Q →
    wpAny (model X.prog X.w) X.A (assignInOrder ((assignEach ts X.env).map (·.2)) us) (fun _ s' => ∃ σ' H', Inv X pins σ' H' s' ∧ Q σ' H') X.xe s
abbrev TSet := V → V → V → Hp → (Hp → Prop) → Prop
def PSet (X : Cx) (t : TSet) : Prop :=
  ∀ (pins : List (Addr × Obj)) (s : Shared) (σ : St) (H : Hp) (o i v : V) (ov iv u : Value) (Q : Hp → Prop), Inv X pins σ H s → RelV o ov → RelV i iv → RelV v u → t o i v H Q →
    wpAny (model X.prog X.w) X.A (setItem ov iv u) (fun _ s' => ∃ H', Inv X pins σ H' s' ∧ Q H') X.xe s
section
variable {X : Cx} {pos : Pos}
def gName (i : Nat) : TG := fun v σ H Q => Q (σ.set i (some v)) H
theorem pg_name {i : Nat} {x : Str} (hN : X.N.Nodup) (hi : X.N[i]? = some x) (hx : Loc X.env.scope x) (hf : X.fn x = true ∨ X.env.scope.names.lookup x = some .local := by first | exact .inl rfl | exact .inr rfl | assumption) : PG X (.Name x pos) (gName i) := by
  intro pins s σ H v u Q I r h
  exact wpAny_assign_Name (store_ok I hN hi hx r (fun s' I' => ⟨_, H, I', h⟩) hf)
def gNil : TGs := fun vs σ H Q => vs = [] ∧ Q σ H
def gCons (t : TG) (u : TGs) : TGs := fun vs σ H Q => ∃ v r, vs = v :: r ∧ t v σ H fun σ' H' => u r σ' H' Q
theorem pgs_nil : PGs X [] gNil := by
  intro pins s σ H vs us Q I r h
  obtain ⟨e, h⟩ := h
  subst e
  cases r
  exact assignInOrder_nil ⟨σ, H, I, h⟩
theorem pgs_cons {e : Expr} {es : List Expr} {t : TG} {u : TGs} (h1 : PG X e t) (h2 : PGs X es u)
    (hs : (assignEach (e :: es) X.env).map (·.2) = assign e X.env :: (assignEach es X.env).map (·.2) := by rfl) : PGs X (e :: es) (gCons t u) := by
  intro pins s σ H vs us Q I r h
  obtain ⟨v, vr, e1, h⟩ := h
  subst e1
  cases r with
  | cons r rr =>
    rw [hs]
    refine assignInOrder_cons (thn (h1 pins s σ H _ _ _ I r h) fun _ s1 ⟨σ1, H1, I1, q1⟩ => ?_)
    exact h2 pins s1 σ1 H1 _ _ Q I1 rr q1
def gTup (K : PySem.W.Frag) (n : Nat) (t : TGs) : TG := fun v σ H Q => ∃ a xs, v = .ref a ∧ SqT K H a xs ∧ xs.length = n ∧ t xs σ H Q
theorem pg_tup {es : List Expr} {k : Nat} {t : TGs} {n : Nat} (hc : X.calm = true) (h : PGs X es t)
    (hn : (assignEach es X.env).length = n := by rfl) (hst : (assignEach es X.env).findIdx? (·.1) = none := by rfl) : PG X (.Tuple es k pos) (gTup X.K n t) := by
  intro pins s σ H v u Q I r hw
  obtain ⟨a, xs, e1, hq, hl, hw⟩ := hw
  subst e1
  cases r
  obtain ⟨its, rv, ht, hz⟩ := I.tuple hq
  refine assign_Tuple_tuple (I.ok.hd hc) ht (by simp [hn, ← hl, rv.length]) hst fun h' hx => ?_
  have I1 : Inv X pins σ H { s with heap := h' } := I.kept (t' := s.toks) fun b o e => hx b o (Nat.ne_of_lt (Heap.lt_size e)) e
  exact h pins _ σ H xs _ Q I1 (by simpa using rv) hw
def gSub (to ti : TE) (t : TSet) : TG := fun v σ H Q => to σ H fun o H1 => ti σ H1 fun i H2 => t o i v H2 fun H3 => Q σ H3
theorem pg_sub {o i : Expr} {to ti : TE} {t : TSet} (ho : PE X o to) (hi : PE X i ti) (hs : PSet X t)
    (ha : ∀ v, assign (.Subscript o i pos) X.env v = (do
      let ov ← holding [v] (eval o X.env)
      let iv ← holding [v, ov] (eval i X.env)
      standAt pos
      holding [v, ov, iv] (setItem ov iv v)
      release [v, ov, iv] []) := by intro _; rfl) : PG X (.Subscript o i pos) (gSub to ti t) := by
  intro pins s σ H v u Q I r h
  rw [ha]
  refine wpAny_bind (wpAny_holding (thn (ho pins s σ H _ I h) fun ov s1 ⟨x, H1, I1, r1, q1⟩ => ?_))
  refine wpAny_bind (wpAny_holding (thn (hi pins s1 σ H1 _ I1 q1) fun iv s2 ⟨y, H2, I2, r2, q2⟩ => ?_))
  refine wpAny_bind (wpAny_standAt (wpAny_bind (wpAny_holding (thn (hs pins s2 σ H2 x y v ov iv u _ I2 r1 r2 r q2) fun _ s3 ⟨H3, I3, q3⟩ => ?_))))
  exact wpAny_release ⟨σ, H3, I3, q3⟩
def tAsg (te : TE) (g : TG) : TS := fun D σ H => te σ H fun x H1 => g x σ H1 D.nx
theorem ps_asg {tg e : Expr} {te : TE} {g : TG} (he : PE X e te) (hg : PG X tg g) (hs : swapsWithSole [tg] e pos.line X.env = pure false := by rfl) (hw : swappedStores [tg] e X.env = pure none := by rfl)
    (h1 : (assignEach [tg] X.env).map (·.2) = [assign tg X.env] := by rfl) : PS X (.Assign [tg] e pos) (tAsg te g) := by
  intro pins s σ H D I h
  refine wpAny_Assign_stores (thn (he pins s σ H _ I h) fun v s1 ⟨x, H1, I1, r1, q1⟩ => ?_) hs hw
  rw [h1]
  exact thn (hg pins s1 σ H1 x v _ I1 r1 q1) fun _ s2 q => q
theorem ps_set {i : Nat} {x : Str} {e : Expr} {te : TE} {pos' : Pos} (hN : X.N.Nodup) (hi : X.N[i]? = some x) (hx : Loc X.env.scope x) (he : PE X e te) (hs : swapsWith e (some (.Name x pos')) pos.line X.env = pure false := by rfl) (hf : X.fn x = true ∨ X.env.scope.names.lookup x = some .local := by first | exact .inl rfl | exact .inr rfl | assumption) :
    PS X (.Assign [.Name x pos'] e pos) (tAsg te (gName i)) := by
  intro pins s σ H D I h
  refine wpAny_Assign_Name (thn (he pins s σ H _ I h) fun v s1 ⟨y, H1, I1, r1, q1⟩ => ?_) hs
  exact store_ok I1 hN hi hx r1 (fun s2 I2 => ⟨_, H1, I2, q1⟩) hf
def tPar (i j : Nat) (ta : TA) : TS := fun D σ H => ta σ H fun vs H1 => ∃ v w, vs = [v, w] ∧ D.nx ((σ.set i (some v)).set j (some w)) H1
theorem ps_par {i j : Nat} {x y : Str} {a b : Expr} {ta : TA} {px py pt : Pos} {kt k2 pt2} (hc : X.calm = true) (hN : X.N.Nodup) (hi : X.N[i]? = some x) (hj : X.N[j]? = some y) (hij : i ≠ j)
    (hx : X.env.scope.names.lookup x = some .local) (hy : X.env.scope.names.lookup y = some .local) (ha : PA X [a, b] ta)
    (hw : swappedStores [.Tuple [.Name x px, .Name y py] kt pt] (.Tuple [a, b] k2 pt2) X.env = pure (some [x, y]))
    (hs : swapsWithSole [.Tuple [.Name x px, .Name y py] kt pt] (.Tuple [a, b] k2 pt2) pos.line X.env = pure false := by rfl) :
    PS X (.Assign [.Tuple [.Name x px, .Name y py] kt pt] (.Tuple [a, b] k2 pt2) pos) (tPar i j ta) := by
  intro pins s σ H D I h
  rw [exec_Assign_arm]
  refine wpAny_bind (wpAny_standAt ?_)
  rw [hs]
  refine wpAny_bind (wpAny_pure ?_)
  rw [if_neg (by decide)]
  refine wpAny_bind (Tuple_ (thn (ha _ pins s σ H _ I h) fun us s1 ⟨vs, H1, I1, r1, q1⟩ => ?_))
  obtain ⟨v, w, e1, q1⟩ := q1
  subst e1
  obtain ⟨u1, u2, rfl, rv, rw'⟩ : ∃ u1 u2, us = [u1, u2] ∧ RelV v u1 ∧ RelV w u2 := by
    cases r1 with
    | cons p q =>
      cases q with
      | cons p' q' =>
        cases q'
        exact ⟨_, _, rfl, p, p'⟩
  refine wpAny_newObj_type ?_ (by show 2 ≤ sizeLine; decide)
  have I2 : Inv X pins σ H1 { s1 with heap := s1.heap.push { cls := .type "tuple", data := .seq [u1, u2].toArray } } := I1.kept (t' := s1.toks) fun b o e => Heap.get?_push_of_some _ e
  rw [hw]
  refine wpAny_bind (wpAny_pure ?_)
  show wpAny (model X.prog X.w) X.A (do rule "assign.swapped-stores"; let items ← unpackItems (.ref s1.heap.objs.size) 2 none; assignInOrder [fun v => bindName X.env y v, fun v => bindName X.env x v] items.reverse; pure Flow.next) _ _ _
  refine wpAny_bind (wpAny_rule (wpAny_bind (unpackItems_tuple (items := #[u1, u2]) (I.ok.hd hc) (IsTup.new s1.heap _) fun h' hx' => ?_)))
  have I3 := I2.kept (h' := h') (t' := s1.toks) fun b o e => hx' b o (Nat.ne_of_lt (Heap.lt_size e)) e
  show wpAny _ _ (assignInOrder [fun v => bindName X.env y v, fun v => bindName X.env x v] [u2, u1] >>= fun _ => pure Flow.next) _ _ _
  refine wpAny_bind (assignInOrder_cons (wpAny_bindName (store_ok I3 hN hj (.inl hy) rw' (fun s2 I4 => ?_) (.inr hy))))
  refine assignInOrder_cons (wpAny_bindName (store_ok I4 hN hi (.inl hx) rv (fun s3 I5 => assignInOrder_nil (wpAny_pure ?_)) (.inr hx)))
  rw [List.set_comm _ _ (Ne.symm hij)] at I5
  exact ⟨_, H1, I5, q1⟩
end

section
variable {X : Cx} {pos : Pos}
end

structure It where
  go : Nat → Hp → Prop
  yld : Nat → Hp → V → Hp → Prop
  stop : Nat → Hp → Prop
def FpOk (X : Cx) (pins : List (Addr × Obj)) (H : Hp) (b : Addr) : Prop :=
  H b = none ∧ b ≠ X.env.locals ∧ b ∉ X.fs ∧ (b ∈ X.ex ∨ X.s₀.heap.objs.size ≤ b) ∧ (∀ x c, X.env.cells.lookup x = some c → c ≠ b) ∧ ∀ p ∈ X.pn ++ pins, p.1 ≠ b
theorem Inv.fpOk {X : Cx} {pins : List (Addr × Obj)} {σ : St} {H H' : Hp} {s : Shared} {b : Addr} (I : Inv X pins σ H s) (hb : s.heap.objs.size ≤ b) (hn : H' b = none) : FpOk X pins H' b := by
  refine ⟨hn, Nat.ne_of_gt (Nat.lt_of_lt_of_le I.lt hb), I.nofs hb, .inr (Nat.le_trans I.sz hb), fun x c e z => ?_, fun p hp z => ?_⟩
  · obtain ⟨v, q⟩ := I.cell x c e
    exact absurd (Nat.lt_of_lt_of_le q.lt (by rw [z]; exact hb)) (Nat.lt_irrefl _)
  · exact absurd (Nat.lt_of_lt_of_le (Heap.lt_size (I.pin p hp).1) (by rw [z]; exact hb)) (Nat.lt_irrefl _)
structure Turn (P : Program) (w : World) (K : PySem.W.Frag) (tg : Expr) (J : It) (fp : List Addr) (it : Addr) (tn : Nat → Heap → Prop) : Prop where
  mem : it ∈ fp
  obj : ∀ i h, tn i h → ∀ b ∈ fp, ∃ o, h.get? b = some o ∧ ∀ v, o.data ≠ .cell v
  keep : ∀ i h h', tn i h → (∀ b ∈ fp, ∀ o, h.get? b = some o → h'.get? b = some o) → tn i h'
  item : ∀ (X : Cx), X.prog = P → X.w = w → X.K = K → X.calm = true → ∀ (i : Nat) (pins : List (Addr × Obj)) (s : Shared) (σ : St) (H : Hp) (E : Value → Shared → Prop), Inv X pins σ H s → (∀ b ∈ fp, FpOk X pins H b) → tn i s.heap → J.go i H →
    wpAny (model P w) X.A (pyNext (.ref it)) (fun r s1 => ∃ u, r = some u ∧
      wpAny (model P w) X.A (letOwnedTupleGo tg (.ref it) u) (fun _ s2 => ∃ x H', Inv X pins σ H' s2 ∧ RelV x u ∧ J.yld i H x H' ∧ tn (i + 1) s2.heap ∧ ∀ b ∈ fp, H' b = none) E s1) E s
  done : ∀ (X : Cx), X.prog = P → X.w = w → X.K = K → X.calm = true → ∀ (i : Nat) (pins : List (Addr × Obj)) (s : Shared) (σ : St) (H : Hp) (E : Value → Shared → Prop), Inv X pins σ H s → (∀ b ∈ fp, FpOk X pins H b) → tn i s.heap → J.stop i H →
    wpAny (model P w) X.A (pyNext (.ref it)) (fun r s1 => r = none ∧ Inv X pins σ H s1) E s
  self : ∀ (A : Around) (i : Nat) (s : Shared) (Q : Value → Shared → Prop) (E : Value → Shared → Prop), tn i s.heap → Q (.ref it) s → wpAny (model P w) A (pyIter (.ref it)) Q E s
abbrev TI := St → Hp → (It → Hp → Prop) → Prop
def PIE (X : Cx) (pins : List (Addr × Obj)) (σ : St) (tg : Expr) (R : It → Hp → Prop) (itv : Value) (s2 : Shared) : Prop :=
  ∃ (it : Addr) (fp : List Addr) (tn : Nat → Heap → Prop) (J : It) (H' : Hp), itv = .ref it ∧ Inv X pins σ H' s2 ∧ Turn X.prog X.w X.K tg J fp it tn ∧ tn 0 s2.heap ∧ (∀ b ∈ fp, FpOk X pins H' b) ∧ R J H'
def PI (X : Cx) (tg iter : Expr) (wi : TI) : Prop :=
  ∀ (pins : List (Addr × Obj)) (s : Shared) (σ : St) (H : Hp) (R : It → Hp → Prop), Inv X pins σ H s → wi σ H R →
    wpAny (model X.prog X.w) X.A (eval iter X.env) (fun v s1 => wpAny (model X.prog X.w) X.A (pyIter v) (PIE X pins σ tg R) X.xe s1) X.xe s

theorem go_of {M : Model} {A : Around} {E : Value → Shared → Prop} {s : Shared} {tg : Expr} {it : Addr} {u : Value} {o : Obj} {n : String} {vs : Array Value} {Q : Unit → Shared → Prop} (ho : s.heap.get? it = some o) (hc : o.cls = .type n) (hd : o.data = .fields vs)
    (hn : ["enumerate", "zip", "dict_itemiterator", "dict_reverseitemiterator", "odict_iterator", "itertools.zip_longest", "itertools.pairwise"].contains n = false) (hQ : Q () s) : wpAny M A (letOwnedTupleGo tg (.ref it) u) Q E s := by
  unfold letOwnedTupleGo
  cases tg <;> first
    | exact wpAny_pure hQ
    | (cases u <;> first
        | exact wpAny_pure hQ
        | (refine wpAny_bind (wpAny_load ho ?_)
           rw [hc, hd]
           show wpAny M A (if (["enumerate", "zip", "dict_itemiterator", "dict_reverseitemiterator", "odict_iterator", "itertools.zip_longest", "itertools.pairwise"].contains n && vs[0]? == some (rawInt _)) = true then _ else _) Q E s
           rw [if_neg (by intro h; rw [hn, Bool.false_and] at h; cases h)]
           exact wpAny_pure hQ))

def Itl (K : PySem.W.Frag) (a : Addr) : It :=
  ⟨fun i H => ∃ xs x, SqL K H a xs ∧ xs[i]? = some x, fun i H x H' => H' = H ∧ ∀ xs, SqL K H a xs → xs[i]? = some x, fun i H => ∃ xs, SqL K H a xs ∧ xs.length ≤ i⟩
def Itt (K : PySem.W.Frag) (a : Addr) : It :=
  ⟨fun i H => ∃ xs x, SqT K H a xs ∧ xs[i]? = some x, fun i H x H' => H' = H ∧ ∀ xs, SqT K H a xs → xs[i]? = some x, fun i H => ∃ xs, SqT K H a xs ∧ xs.length ≤ i⟩
def Itr (lo : Int) (n : Nat) : It := ⟨fun i _ => i < n, fun i H x H' => H' = H ∧ x = .int (lo + i), fun i _ => n ≤ i⟩
theorem turn_list {P : Program} {w : World} {K : PySem.W.Frag} {tg : Expr} (a it : Addr) : Turn P w K tg (Itl K a) [it] it (fun i h => h.IsListIter it a i) where
  mem := by simp
  obj := fun i h st b hb => by
    have e : b = it := by simpa using hb
    subst e
    obtain ⟨o, e, c, d⟩ := st
    exact ⟨o, e, fun v z => by rw [d] at z; cases z⟩
  keep := fun i h h' st k => st.at fun o e => k it (by simp) o e
  item := by
    intro X hP hw hK hc i pins s σ H E I hf st hg
    subst hP hw hK
    obtain ⟨xs, x, hq, hx⟩ := hg
    obtain ⟨its, rv, p, hz⟩ := I.list hq
    obtain ⟨u, hu, ru⟩ := rv.get hx
    obtain ⟨f0, f1, f2, f3, f4, f5⟩ := hf it (by simp)
    refine wpAny_pyNext_list_item st p.isList (x := u) (by simpa using hu) fun h' st' sb => ?_
    have I1 : Inv X pins σ H { s with heap := h' } := I.turned (t' := s.toks) (fun b o hb e => (sb.2 b hb).trans e) f0 f1 f3 f4 f5
    obtain ⟨o, e, c, d⟩ := id st'
    exact ⟨u, rfl, go_of (s := { s with heap := h' }) e c d (by decide) ⟨x, H, I1, ru, ⟨rfl, fun ys hy => by rw [I.list_inj hy hq]; exact hx⟩, st', fun b hb => (hf b hb).1⟩⟩
  done := by
    intro X hP hw hK hc i pins s σ H E I hf st hg
    subst hP hw hK
    obtain ⟨xs, hq, hx⟩ := hg
    obtain ⟨its, rv, p, hz⟩ := I.list hq
    obtain ⟨f0, f1, f2, f3, f4, f5⟩ := hf it (by simp)
    have hl := rv.length
    exact wpAny_pyNext_list_end (I.ok.hd hc) st p.isList (by simp; omega) fun h' eb => ⟨rfl, I.turned (t' := s.toks) (fun b o hb e => eb b o hb e) f0 f1 f3 f4 f5⟩
  self := fun _ _ _ _ _ st h => wpAny_pyIter_listiter st h
theorem turn_tuple {P : Program} {w : World} {K : PySem.W.Frag} {tg : Expr} (a it : Addr) : Turn P w K tg (Itt K a) [it] it (fun i h => h.IsTupleIter it a i) where
  mem := by simp
  obj := fun i h st b hb => by
    have e : b = it := by simpa using hb
    subst e
    obtain ⟨o, e, c, d⟩ := st
    exact ⟨o, e, fun v z => by rw [d] at z; cases z⟩
  keep := fun i h h' st k => st.at fun o e => k it (by simp) o e
  item := by
    intro X hP hw hK hc i pins s σ H E I hf st hg
    subst hP hw hK
    obtain ⟨xs, x, hq, hx⟩ := hg
    obtain ⟨its, rv, p, hz⟩ := I.tuple hq
    obtain ⟨u, hu, ru⟩ := rv.get hx
    obtain ⟨f0, f1, f2, f3, f4, f5⟩ := hf it (by simp)
    refine wpAny_pyNext_tuple_item st (show s.heap.IsTuple a its.toArray from p) (x := u) (by simpa using hu) fun h' st' sb => ?_
    have I1 : Inv X pins σ H { s with heap := h' } := I.turned (t' := s.toks) (fun b o hb e => (sb.2 b hb).trans e) f0 f1 f3 f4 f5
    obtain ⟨o, e, c, d⟩ := id st'
    exact ⟨u, rfl, go_of (s := { s with heap := h' }) e c d (by decide) ⟨x, H, I1, ru, ⟨rfl, fun ys hy => by rw [I.tuple_inj hy hq]; exact hx⟩, st', fun b hb => (hf b hb).1⟩⟩
  done := by
    intro X hP hw hK hc i pins s σ H E I hf st hg
    subst hP hw hK
    obtain ⟨xs, hq, hx⟩ := hg
    obtain ⟨its, rv, p, hz⟩ := I.tuple hq
    obtain ⟨f0, f1, f2, f3, f4, f5⟩ := hf it (by simp)
    have hl := rv.length
    exact wpAny_pyNext_tuple_end (I.ok.hd hc) st (show s.heap.IsTuple a its.toArray from p) (by simp; omega) fun h' eb => ⟨rfl, I.turned (t' := s.toks) (fun b o hb e => eb b o hb e) f0 f1 f3 f4 f5⟩
  self := fun _ _ _ _ _ st h => wpAny_pyIter_tupleiter st h
theorem turn_range {P : Program} {w : World} {K : PySem.W.Frag} {tg : Expr} (it : Addr) (lo : Int) (n : Nat) : Turn P w K tg (Itr lo n) [it] it (fun i h => IsRangeIter h it (lo + (i : Nat) * 1) ((n : Int) - (i : Nat)) 1) where
  mem := by simp
  obj := fun i h st b hb => by
    have e : b = it := by simpa using hb
    subst e
    exact ⟨_, st, fun v z => by
      have z' : Data.fields _ = Data.cell v := z
      cases z'⟩
  keep := fun i h h' st k => k it (by simp) _ st
  item := by
    intro X hP hw hK hc i pins s σ H E I hf st hg
    subst hP hw hK
    obtain ⟨f0, f1, f2, f3, f4, f5⟩ := hf it (by simp)
    have W := Walks.range (prog := X.prog) (w := X.w) (I.ok.hd hc) it lo 1 n
    refine W.item i s _ _ hg st fun v h' tk hv st' kk => ?_
    obtain ⟨t, rfl⟩ := hv
    have I1 : Inv X pins σ H { s with heap := h', toks := tk } := I.turned (fun b o hb e => kk b o (by simpa using hb) e) f0 f1 f3 f4 f5
    refine ⟨_, rfl, go_of (s := { s with heap := h', toks := tk }) (n := "range_iterator") st' rfl rfl (by decide) ⟨.int (lo + i), H, I1, ⟨t, ?_⟩, ⟨rfl, rfl⟩, st', fun b hb => (hf b hb).1⟩⟩
    rw [Int.mul_one]
  done := by
    intro X hP hw hK hc i pins s σ H E I hf st hg
    subst hP hw hK
    obtain ⟨f0, f1, f2, f3, f4, f5⟩ := hf it (by simp)
    exact wpAny_pyNext_range_end (I.ok.hd hc) st (by have : n ≤ i := hg; omega) fun h' eb => ⟨rfl, I.turned (t' := s.toks) (fun b o hb e => eb b o hb e) f0 f1 f3 f4 f5⟩
  self := fun _ _ _ _ _ st h => wpAny_pyIter_rangeiter st h
end L2

namespace L2
open PySem PySem.Spec PyProof.Rows
section
variable {X : Cx} {tg : Expr}
def iList (K : PySem.W.Frag) (tl : TE) : TI := fun σ H R => tl σ H fun x H1 => ∃ a, x = .ref a ∧ (∃ xs, SqL K H1 a xs) ∧ R (Itl K a) H1
def iTup (K : PySem.W.Frag) (tl : TE) : TI := fun σ H R => tl σ H fun x H1 => ∃ a, x = .ref a ∧ (∃ xs, SqT K H1 a xs) ∧ R (Itt K a) H1
theorem pi_list {l : Expr} {tl : TE} (hl : PE X l tl) : PI X tg l (iList X.K tl) := by
  intro pins s σ H R I h
  refine thn (hl pins s σ H _ I h) fun v s1 ⟨x, H1, I1, r1, q1⟩ => ?_
  obtain ⟨a, e, ⟨xs, hq⟩, q⟩ := q1
  subst e
  cases r1
  obtain ⟨its, rv, p, hz⟩ := I1.list hq
  refine wpAny_pyIter_list p.isList ?_
  refine ⟨s1.heap.objs.size, [s1.heap.objs.size], _, _, H1, rfl, I1.kept (t' := s1.toks) fun b o e => Heap.get?_push_of_some _ e, turn_list a _, ⟨_, Heap.get?_push_size _ rfl, rfl, rfl⟩, fun b hb => ?_, q⟩
  have e : b = s1.heap.objs.size := by simpa using hb
  subst e
  exact I1.fpOk (Nat.le_refl _) (I1.hok.fresh (Nat.le_refl _))
theorem pi_tup {l : Expr} {tl : TE} (hl : PE X l tl) : PI X tg l (iTup X.K tl) := by
  intro pins s σ H R I h
  refine thn (hl pins s σ H _ I h) fun v s1 ⟨x, H1, I1, r1, q1⟩ => ?_
  obtain ⟨a, e, ⟨xs, hq⟩, q⟩ := q1
  subst e
  cases r1
  obtain ⟨its, rv, p, hz⟩ := I1.tuple hq
  refine wpAny_pyIter_tuple (show s1.heap.IsTuple a its.toArray from p) ?_
  refine ⟨s1.heap.objs.size, [s1.heap.objs.size], _, _, H1, rfl, I1.kept (t' := s1.toks) fun b o e => Heap.get?_push_of_some _ e, turn_tuple a _, ⟨_, Heap.get?_push_size _ rfl, rfl, rfl⟩, fun b hb => ?_, q⟩
  have e : b = s1.heap.objs.size := by simpa using hb
  subst e
  exact I1.fpOk (Nat.le_refl _) (I1.hok.fresh (Nat.le_refl _))
theorem range_it {pins : List (Addr × Obj)} {σ : St} {H : Hp} {s : Shared} {R : It → Hp → Prop} {E : Value → Shared → Prop} {lo hi : Int} {t u v : Tok} {tk : Nat} (I : Inv X pins σ H s) (h1 : -(2 ^ 62) ≤ lo) (h2 : lo < 2 ^ 62) (h3 : -(2 ^ 62) ≤ hi) (h4 : hi < 2 ^ 62)
    (q : R (Itr lo (hi - lo).toNat) H) : wpAny (model X.prog X.w) X.A (pyIter (.ref s.heap.objs.size)) (PIE X pins σ tg R) E { s with heap := s.heap.push { cls := .type "range", data := .fields #[.int lo t, .int hi u, .int 1 v] }, toks := tk } := by
  refine wpAny_pyIter_range (IsRange.new ..) (small_one h1 h2 h3 h4) ?_
  have I1 : Inv X pins σ H { s with heap := s.heap.push { cls := .type "range", data := .fields #[.int lo t, .int hi u, .int 1 v] }, toks := tk } := I.kept fun b o e => Heap.get?_push_of_some _ e
  refine ⟨(s.heap.push { cls := .type "range", data := .fields #[.int lo t, .int hi u, .int 1 v] }).objs.size, [(s.heap.push { cls := .type "range", data := .fields #[.int lo t, .int hi u, .int 1 v] }).objs.size], _, _, H, rfl,
    I1.kept (t' := tk) fun b o e => Heap.get?_push_of_some _ e, turn_range _ lo (hi - lo).toNat, ?_, fun b hb => ?_, q⟩
  · have e1 : lo + ((0 : Nat) : Int) * 1 = lo := by simp
    have e2 : (((hi - lo).toNat : Nat) : Int) - ((0 : Nat) : Int) = Builtin.Range.rangeSize lo hi 1 := by rw [rangeSize_one]; split <;> omega
    show IsRangeIter _ _ (lo + ((0 : Nat) : Int) * 1) ((((hi - lo).toNat : Nat) : Int) - ((0 : Nat) : Int)) 1
    rw [e1, e2]
    exact Heap.get?_push_size _ rfl
  · have e : b = (s.heap.push { cls := .type "range", data := .fields #[.int lo t, .int hi u, .int 1 v] }).objs.size := by simpa using hb
    subst e
    exact I1.fpOk (Nat.le_refl _) (I1.hok.fresh (Nat.le_refl _))
def iRng1 (ta : TA) : TI := fun σ H R => ta σ H fun vs H1 => ∃ j : Int, vs = [.int j] ∧ -(2 ^ 62) ≤ j ∧ j < 2 ^ 62 ∧ R (Itr 0 j.toNat) H1
theorem pi_range1 {a : Expr} {ta : TA} {p pos : Pos} (hg : Gl X "range") (hm : X.mg "range" = none) (ha : PA X [a] ta) (hs : starEach [a] X.env = [(false, eval a X.env)] := by rfl) : PI X tg (.Call (.Name "range" p) [a] [] pos) (iRng1 ta) := by
  intro pins s σ H R I h
  refine Call_ (ld_blt I hg hm boot_range (PyProof.Rows.callWith_type1 (thn (ha pos pins s σ H _ I h) fun us s1 ⟨vs, H1, I1, r1, q1⟩ => ?_) hs rfl))
  obtain ⟨j, e, q1, q2, q⟩ := q1
  subst e
  cases r1 with
  | cons r rr =>
    cases rr
    obtain ⟨t, rfl⟩ := r
    exact call_range_1 (range_it I1 (by omega) (by omega) q1 q2 (by simpa using q))

def tFor (wi : TI) (g : TG) (tb : TS) : TS := fun D σ H => wi σ H fun J H1 => ∃ W : Nat → Nat → St → Hp → Prop, (∃ m, W 0 m σ H1) ∧ ∀ i m σ H, W i m σ H →
  (J.stop i H ∧ D.nx σ H) ∨ (J.go i H ∧ ∃ N : St → Hp → Prop, (∀ σ' H', N σ' H' → ∃ m', m' < m ∧ W (i + 1) m' σ' H') ∧ ∀ x H', J.yld i H x H' → g x σ H' fun σ2 H2 => tb { D with nx := N, ct := N, bk := D.nx } σ2 H2)
def pinsAt (fp : List Addr) (h : Heap) : List (Addr × Obj) := fp.filterMap fun b => (h.get? b).map fun o => (b, o)
theorem mem_pinsAt {fp : List Addr} {h : Heap} {b : Addr} {o : Obj} (hb : b ∈ fp) (e : h.get? b = some o) : (b, o) ∈ pinsAt fp h := List.mem_filterMap.mpr ⟨b, hb, by rw [e]; rfl⟩
theorem of_pinsAt {fp : List Addr} {h : Heap} {p : Addr × Obj} (hp : p ∈ pinsAt fp h) : p.1 ∈ fp ∧ h.get? p.1 = some p.2 := by
  obtain ⟨b, hb, e⟩ := List.mem_filterMap.mp hp
  cases q : h.get? b with
  | none => rw [q] at e; cases e
  | some o =>
    rw [q] at e
    have e' : (b, o) = p := Option.some.inj e
    subst e'
    exact ⟨hb, q⟩
theorem Inv.pinned {pins : List (Addr × Obj)} {σ : St} {H : Hp} {s : Shared} {fp : List Addr} (I : Inv X pins σ H s) (hf : ∀ b ∈ fp, FpOk X pins H b) (ho : ∀ b ∈ fp, ∃ o, s.heap.get? b = some o ∧ ∀ v, o.data ≠ .cell v) : Inv X (pins ++ pinsAt fp s.heap) σ H s :=
  I.pins_of fun p hp => (List.mem_append.mp hp).elim (fun z => I.pin p (List.mem_append_right _ z)) fun z => by
    obtain ⟨hb, e⟩ := of_pinsAt z
    obtain ⟨f0, f1, f2, _⟩ := hf p.1 hb
    obtain ⟨o, e', d⟩ := ho p.1 hb
    rw [e] at e'; cases e'
    exact ⟨e, f0, f1, f2, d⟩
theorem Inv.unpinned {pins pl : List (Addr × Obj)} {σ : St} {H : Hp} {s : Shared} (I : Inv X (pins ++ pl) σ H s) : Inv X pins σ H s := I.pins_of fun p hp => I.pin p (List.mem_append_right _ (List.mem_append_left _ hp))
theorem ps_for {iter : Expr} {body : List Stmt} {wi : TI} {g : TG} {tb : TS} {pos : Pos} (hp : PassesOwn (model X.prog X.w) X.A X.env X.xe) (hc : X.calm = true) (hi : PI X tg iter wi) (hg : PG X tg g) (hb : PSs X body tb)
    (hs : ∀ x, foldedSetIterable iter X.env x = pure x := by intro _; rfl) : PS X (.For tg iter body [] pos) (tFor wi g tb) := by
  intro pins s σ H D I h
  refine wpAny_For (thn (hi pins s σ H _ I h) fun v s1 h1 => thn h1 fun itv s2 h2 => ?_) hs
  obtain ⟨it, fp, tn, J, H2, e, I2, T, st2, f2, W, ⟨m0, w0⟩, turn⟩ := h2
  subst e
  -- what stays true of the iterator's objects through the loop
  have stat : ∀ {H' : Hp}, (∀ b ∈ fp, H' b = none) → ∀ b ∈ fp, FpOk X pins H' b := fun hn b hb => ⟨hn b hb, (f2 b hb).2⟩
  refine codeAny_forLoop_any (fun n s' => ∃ i σ' H', Inv X pins σ' H' s' ∧ tn i s'.heap ∧ (∀ b ∈ fp, H' b = none) ∧ W i n σ' H') ?_ m0 ⟨0, σ, H2, I2, st2, fun b hb => (f2 b hb).1, w0⟩
  rintro n s3 ⟨i, σ3, H3, I3, st3, fr3, w3⟩
  rcases turn i n σ3 H3 w3 with ⟨stop, qn⟩ | ⟨go, N, hN, step⟩
  · refine wpAny_passesOwn hp (thn (T.done X rfl rfl rfl hc i pins s3 σ3 H3 X.xe I3 (stat fr3) st3 stop) fun r s4 ⟨hr, I4⟩ => ?_)
    subst hr
    exact wpAny_execs_nil ⟨σ3, H3, I4, qn⟩
  · refine wpAny_passesOwn hp (thn (T.item X rfl rfl rfl hc i pins s3 σ3 H3 X.xe I3 (stat fr3) st3 go) fun r s4 ⟨u, hr, h4⟩ => ?_)
    subst hr
    refine wpAny_passesOwn hp (thn h4 fun _ s5 ⟨x, H5, I5, r5, y5, st5, fr5⟩ => ?_)
    have I5' := I5.pinned (stat fr5) (T.obj _ _ st5)
    refine wpAny_passesOwn hp (thn (hg _ s5 σ3 H5 x u _ I5' r5 (step x H5 y5)) fun _ s6 ⟨σ6, H6, I6, q6⟩ => ?_)
    refine wpAny_passesOwn hp (thn (hb _ s6 σ6 H6 _ I6 q6) fun f s7 q7 => ?_)
    have again : ∀ {σ7 : St} {H7 : Hp}, Inv X (pins ++ pinsAt fp s5.heap) σ7 H7 s7 → N σ7 H7 → ∃ m, m < n ∧ ∃ i σ' H', Inv X pins σ' H' s7 ∧ tn i s7.heap ∧ (∀ b ∈ fp, H' b = none) ∧ W i m σ' H' := fun {σ7 H7} I7 n7 => by
      obtain ⟨m', hm, w7⟩ := hN σ7 H7 n7
      refine ⟨m', hm, i + 1, σ7, H7, I7.unpinned, T.keep _ _ _ st5 fun b hb o e => (I7.pin (b, o) (List.mem_append_right _ (List.mem_append_right _ (mem_pinsAt hb e)))).1, fun b hb => ?_, w7⟩
      obtain ⟨o, e, d⟩ := T.obj _ _ st5 b hb
      exact (I7.pin (b, o) (List.mem_append_right _ (List.mem_append_right _ (mem_pinsAt hb e)))).2.1
    cases f with
    | next => obtain ⟨σ7, H7, I7, n7⟩ := q7; exact again I7 n7
    | cont => obtain ⟨σ7, H7, I7, n7⟩ := q7; exact again I7 n7
    | brk => obtain ⟨σ7, H7, I7, q7⟩ := q7; exact ⟨σ7, H7, I7.unpinned, q7⟩
    | ret v => obtain ⟨x7, σ7, H7, I7, r7, q7⟩ := q7; exact ⟨x7, σ7, H7, I7.unpinned, r7, q7⟩
end

theorem for_list {K : PySem.W.Frag} {a : Addr} {xs : List V} {g : TG} {tb : TS} {D : Ends} {σ : St} {H : Hp} (Pv : Nat → St → Hp → Prop) (h0 : Pv 0 σ H) (hl : ∀ i σ H, i ≤ xs.length → Pv i σ H → SqL K H a xs)
    (hs : ∀ i x σ H, xs[i]? = some x → Pv i σ H → g x σ H fun σ2 H2 => tb { D with nx := Pv (i + 1), ct := Pv (i + 1), bk := D.nx } σ2 H2) (hd : ∀ σ H, Pv xs.length σ H → D.nx σ H) :
    ∃ W : Nat → Nat → St → Hp → Prop, (∃ m, W 0 m σ H) ∧ ∀ i m σ H, W i m σ H →
      ((Itl K a).stop i H ∧ D.nx σ H) ∨ ((Itl K a).go i H ∧ ∃ N : St → Hp → Prop, (∀ σ' H', N σ' H' → ∃ m', m' < m ∧ W (i + 1) m' σ' H') ∧ ∀ x H', (Itl K a).yld i H x H' → g x σ H' fun σ2 H2 => tb { D with nx := N, ct := N, bk := D.nx } σ2 H2) := by
  refine ⟨fun i m σ H => m = xs.length - i ∧ i ≤ xs.length ∧ Pv i σ H, ⟨xs.length, by simp, Nat.zero_le _, h0⟩, ?_⟩
  rintro i m σ H ⟨rfl, hi, p⟩
  have q := hl i σ H hi p
  by_cases hlt : i < xs.length
  · refine .inr ⟨⟨xs, xs[i], q, by simp [hlt]⟩, Pv (i + 1), fun σ' H' p' => ⟨xs.length - (i + 1), by omega, rfl, hlt, p'⟩, fun x H' y => ?_⟩
    obtain ⟨e, y⟩ := y
    subst e
    exact hs i x σ _ (y xs q) p
  · have e : i = xs.length := by omega
    subst e
    exact .inl ⟨⟨xs, q, Nat.le_refl _⟩, hd σ H p⟩
theorem for_tup {K : PySem.W.Frag} {a : Addr} {xs : List V} {g : TG} {tb : TS} {D : Ends} {σ : St} {H : Hp} (Pv : Nat → St → Hp → Prop) (h0 : Pv 0 σ H) (hl : ∀ i σ H, i ≤ xs.length → Pv i σ H → SqT K H a xs)
    (hs : ∀ i x σ H, xs[i]? = some x → Pv i σ H → g x σ H fun σ2 H2 => tb { D with nx := Pv (i + 1), ct := Pv (i + 1), bk := D.nx } σ2 H2) (hd : ∀ σ H, Pv xs.length σ H → D.nx σ H) :
    ∃ W : Nat → Nat → St → Hp → Prop, (∃ m, W 0 m σ H) ∧ ∀ i m σ H, W i m σ H →
      ((Itt K a).stop i H ∧ D.nx σ H) ∨ ((Itt K a).go i H ∧ ∃ N : St → Hp → Prop, (∀ σ' H', N σ' H' → ∃ m', m' < m ∧ W (i + 1) m' σ' H') ∧ ∀ x H', (Itt K a).yld i H x H' → g x σ H' fun σ2 H2 => tb { D with nx := N, ct := N, bk := D.nx } σ2 H2) := by
  refine ⟨fun i m σ H => m = xs.length - i ∧ i ≤ xs.length ∧ Pv i σ H, ⟨xs.length, by simp, Nat.zero_le _, h0⟩, ?_⟩
  rintro i m σ H ⟨rfl, hi, p⟩
  have q := hl i σ H hi p
  by_cases hlt : i < xs.length
  · refine .inr ⟨⟨xs, xs[i], q, by simp [hlt]⟩, Pv (i + 1), fun σ' H' p' => ⟨xs.length - (i + 1), by omega, rfl, hlt, p'⟩, fun x H' y => ?_⟩
    obtain ⟨e, y⟩ := y
    subst e
    exact hs i x σ _ (y xs q) p
  · have e : i = xs.length := by omega
    subst e
    exact .inl ⟨⟨xs, q, Nat.le_refl _⟩, hd σ H p⟩
theorem for_range {lo : Int} {n : Nat} {g : TG} {tb : TS} {D : Ends} {σ : St} {H : Hp} (Pv : Nat → St → Hp → Prop) (h0 : Pv 0 σ H)
    (hs : ∀ i σ H, i < n → Pv i σ H → g (.int (lo + i)) σ H fun σ2 H2 => tb { D with nx := Pv (i + 1), ct := Pv (i + 1), bk := D.nx } σ2 H2) (hd : ∀ σ H, Pv n σ H → D.nx σ H) :
    ∃ W : Nat → Nat → St → Hp → Prop, (∃ m, W 0 m σ H) ∧ ∀ i m σ H, W i m σ H →
      ((Itr lo n).stop i H ∧ D.nx σ H) ∨ ((Itr lo n).go i H ∧ ∃ N : St → Hp → Prop, (∀ σ' H', N σ' H' → ∃ m', m' < m ∧ W (i + 1) m' σ' H') ∧ ∀ x H', (Itr lo n).yld i H x H' → g x σ H' fun σ2 H2 => tb { D with nx := N, ct := N, bk := D.nx } σ2 H2) := by
  refine ⟨fun i m σ H => m = n - i ∧ i ≤ n ∧ Pv i σ H, ⟨n, by simp, Nat.zero_le _, h0⟩, ?_⟩
  rintro i m σ H ⟨rfl, hi, p⟩
  by_cases hlt : i < n
  · refine .inr ⟨hlt, Pv (i + 1), fun σ' H' p' => ⟨n - (i + 1), by omega, rfl, hlt, p'⟩, fun x H' y => ?_⟩
    obtain ⟨e, y⟩ := y
    subst e y
    exact hs i σ _ hlt p
  · have e : i = n := by omega
    subst e
    exact .inl ⟨Nat.le_refl _, hd σ H p⟩
end L2

namespace L2
open PySem PySem.Spec PyProof.Rows

abbrev R2 := V → V → Hp → VK → Prop
def OpR (X : Cx) (f : Value → Value → Sem Value) (r : R2) : Prop :=
  ∀ (pins : List (Addr × Obj)) (s : Shared) (σ : St) (H : Hp) (x y : V) (v u : Value) (Q : VK), Inv X pins σ H s → RelV x v → RelV y u → r x y H Q →
    wpAny (model X.prog X.w) X.A (f v u) (EP X pins σ Q) X.xe s
def UnR (X : Cx) (f : Value → Sem Value) (r : V → Hp → VK → Prop) : Prop :=
  ∀ (pins : List (Addr × Obj)) (s : Shared) (σ : St) (H : Hp) (x : V) (v : Value) (Q : VK), Inv X pins σ H s → RelV x v → r x H Q →
    wpAny (model X.prog X.w) X.A (f v) (EP X pins σ Q) X.xe s
def CallR (X : Cx) (f : Value) (r : List V → Hp → VK → Prop) : Prop :=
  ∀ (pins : List (Addr × Obj)) (s : Shared) (σ : St) (H : Hp) (xs : List V) (us : List Value) (Q : VK), Inv X pins σ H s → Vals xs us → r xs H Q →
    wpAny (model X.prog X.w) X.A (call f us) (EP X pins σ Q) X.xe s

def tOp (r : R2) (ta tb : TE) : TE := fun σ H Q => ta σ H fun x H1 => tb σ H1 fun y H2 => r x y H2 Q
def tUn (r : V → Hp → VK → Prop) (ta : TE) : TE := fun σ H Q => ta σ H fun x H1 => r x H1 Q
def rI (C : Int → Int → Prop) (g : Int → Int → V) : R2 := fun x y H Q => ∃ i j, x = .int i ∧ y = .int j ∧ C i j ∧ Q (g i j) H
def rI0 (g : Int → Int → V) : R2 := fun x y H Q => ∃ i j, x = .int i ∧ y = .int j ∧ Q (g i j) H
def rU (g : Int → V) : V → Hp → VK → Prop := fun x H Q => ∃ i, x = .int i ∧ Q (g i) H

section
variable {X : Cx} {a b c : Expr} {ta tb tc : TE} {pos : Pos}

theorem binT (ha : PE X a ta) (hb : PE X b tb) {pins : List (Addr × Obj)} {s : Shared} {σ : St} {H : Hp} {R : V → V → Hp → Prop} (I : Inv X pins σ H s)
    (h : ta σ H fun x H1 => tb σ H1 fun y H2 => R x y H2) {Q : Value → Shared → Prop} {f : Value → Value → Sem Value}
    (hf : ∀ v u s2 x y H2, Inv X pins σ H2 s2 → RelV x v → RelV y u → R x y H2 → wpAny (model X.prog X.w) X.A (f v u) Q X.xe s2) :
    wpAny (model X.prog X.w) X.A (eval a X.env) (fun v s₁ => wpAny (model X.prog X.w) X.A (eval b X.env) (fun u s₂ => wpAny (model X.prog X.w) X.A (f v u) Q X.xe s₂) X.xe s₁) X.xe s := by
  refine thn (ha pins s σ H _ I h) fun v s1 ⟨x, H1, I1, r1, q1⟩ => ?_
  refine thn (hb pins s1 σ H1 _ I1 q1) fun u s2 ⟨y, H2, I2, r2, q2⟩ => ?_
  exact hf v u s2 x y H2 I2 r1 r2 q2

theorem pe_op {op : Operator} {r : R2} (ho : OpR X (binaryOp op) r) (ha : PE X a ta) (hb : PE X b tb) : PE X (.BinOp a op b pos) (tOp r ta tb) := by
  intro pins s σ H Q I h
  exact wpAny_BinOp (binT ha hb I h fun v u s2 x y H2 I2 rx ry q => ho pins s2 σ H2 x y v u Q I2 rx ry q)
theorem pe_un {op : UnaryOp} {r : V → Hp → VK → Prop} (ho : UnR X (unaryOp op) r) (ha : PE X a ta) : PE X (.UnaryOp op a pos) (tUn r ta) := by
  intro pins s σ H Q I h
  exact UnaryOp_ (thn (ha pins s σ H _ I h) fun v s1 ⟨x, H1, I1, r1, q1⟩ => ho pins s1 σ H1 x v Q I1 r1 q1)

theorem opI {f : Value → Value → Sem Value} {C : Int → Int → Prop} {g : Int → Int → Int}
    (rule : ∀ (i j : Int) (t u : Tok) (s : Shared) (Q : Value → Shared → Prop) (E : Value → Shared → Prop), C i j → Q (.int (g i j) s.toks) { s with toks := s.toks + 1 } → wpAny (model X.prog X.w) X.A (f (.int i t) (.int j u)) Q E s) :
    OpR X f (rI C fun i j => .int (g i j)) := by
  intro pins s σ H x y v u Q I rx ry h
  obtain ⟨i, j, rfl, rfl, hc, q⟩ := h
  obtain ⟨t, rfl⟩ := rx
  obtain ⟨t', rfl⟩ := ry
  exact rule i j t t' s _ _ hc ⟨.int (g i j), H, I.tok _, ⟨_, rfl⟩, q⟩
theorem opI0 {f : Value → Value → Sem Value} {g : Int → Int → Int}
    (rule : ∀ (i j : Int) (t u : Tok) (s : Shared) (Q : Value → Shared → Prop) (E : Value → Shared → Prop), Q (.int (g i j) s.toks) { s with toks := s.toks + 1 } → wpAny (model X.prog X.w) X.A (f (.int i t) (.int j u)) Q E s) :
    OpR X f (rI0 fun i j => .int (g i j)) := by
  intro pins s σ H x y v u Q I rx ry h
  obtain ⟨i, j, rfl, rfl, q⟩ := h
  obtain ⟨t, rfl⟩ := rx
  obtain ⟨t', rfl⟩ := ry
  exact rule i j t t' s _ _ ⟨.int (g i j), H, I.tok _, ⟨_, rfl⟩, q⟩
theorem opB0 {f : Value → Value → Sem Value} {g : Int → Int → Bool}
    (rule : ∀ (i j : Int) (t u : Tok) (s : Shared) (Q : Value → Shared → Prop) (E : Value → Shared → Prop), Q (.bool (g i j)) s → wpAny (model X.prog X.w) X.A (f (.int i t) (.int j u)) Q E s) :
    OpR X f (rI0 fun i j => .bl (g i j)) := by
  intro pins s σ H x y v u Q I rx ry h
  obtain ⟨i, j, rfl, rfl, q⟩ := h
  obtain ⟨t, rfl⟩ := rx
  obtain ⟨t', rfl⟩ := ry
  exact rule i j t t' s _ _ ⟨.bl (g i j), H, I, rfl, q⟩

def CPow (i j : Int) : Prop := 0 ≤ j ∧ j ≤ 1000000 ∧ i.natAbs < 2 ^ 64
def CMul (i j : Int) : Prop := (-(2 ^ 64) < i ∧ i < 2 ^ 64) ∨ (-(2 ^ 64) < j ∧ j < 2 ^ 64)
theorem CMul.ok {i j : Int} (h : CMul i j) : IntMulOk i j := by
  rcases h with ⟨h1, h2⟩ | ⟨h1, h2⟩
  · exact .of_left (intBits_le_64 h1 h2)
  · exact .of_right (intBits_le_64 h1 h2)

theorem op_add : OpR X (binaryOp .Add) (rI0 fun i j => .int (i + j)) := opI0 fun _ _ _ _ _ _ _ q => add_int q
theorem op_sub : OpR X (binaryOp .Sub) (rI0 fun i j => .int (i - j)) := opI0 fun _ _ _ _ _ _ _ q => sub_int q
theorem op_mod : OpR X (binaryOp .Mod) (rI (fun _ j => 0 < j) fun i j => .int (i % j)) := opI fun i j _ _ _ _ _ hc q => by
  have h1 : (0 : Int) < j := hc
  exact mod_int' (by omega) (by rw [Int.fmod_eq_emod_of_nonneg i (by omega)]; exact q)
theorem op_pow : OpR X (binaryOp .Pow) (rI CPow fun i j => .int (i ^ j.toNat)) := opI fun _ _ _ _ _ _ _ hc q => pow_int_small hc.1 hc.2.1 hc.2.2 q


theorem unI {f : Value → Sem Value} {g : Int → Int}
    (rule : ∀ (i : Int) (t : Tok) (s : Shared) (Q : Value → Shared → Prop) (E : Value → Shared → Prop), Q (.int (g i) s.toks) { s with toks := s.toks + 1 } → wpAny (model X.prog X.w) X.A (f (.int i t)) Q E s) :
    UnR X f (rU fun i => .int (g i)) := by
  intro pins s σ H x v Q I rx h
  obtain ⟨i, rfl, q⟩ := h
  obtain ⟨t, rfl⟩ := rx
  exact rule i t s _ _ ⟨.int (g i), H, I.tok _, ⟨_, rfl⟩, q⟩
theorem un_neg : UnR X (unaryOp .USub) (rU fun i => .int (-i)) := unI fun _ _ _ _ _ q => neg_int q

end

def scal : V → V → Bool
  | .non, .non => true | .non, .int _ => true | .int _, .non => true | .non, .bl _ => true | .bl _, .non => true | .non, .str _ => true | .str _, .non => true
  | .int _, .int _ => true | .bl _, .bl _ => true | .str _, .str _ => true | .byt _, .byt _ => true
  | .int _, .str _ => true | .str _, .int _ => true | .bl _, .str _ => true | .str _, .bl _ => true
  | _, _ => false
def rEq : R2 := fun x y H Q => scal x y = true ∧ Q (.bl (decide (x = y))) H
def rNe : R2 := fun x y H Q => scal x y = true ∧ Q (.bl (!decide (x = y))) H

theorem dec_int {i j : Int} : decide (V.int i = V.int j) = (i == j) := by
  rw [Bool.eq_iff_iff]
  simp
theorem dec_bl {i j : Bool} : decide (V.bl i = V.bl j) = (i == j) := by
  rw [Bool.eq_iff_iff]
  simp
theorem dec_str {i j : Str} : decide (V.str i = V.str j) = (i == j) := by
  rw [Bool.eq_iff_iff]
  simp
theorem dec_byt {i j : Array UInt8} : decide (V.byt i = V.byt j) = (i.toList == j.toList) := by
  rw [Bool.eq_iff_iff]
  cases i
  cases j
  simp

section
variable {X : Cx} {a b c : Expr} {ta tb tc : TE} {pos : Pos}
theorem fin_bl {pins : List (Addr × Obj)} {σ : St} {H : Hp} {s : Shared} {Q : VK} {k k' : Bool} (I : Inv X pins σ H s) (q : Q (.bl k) H) (e : k = k') : EP X pins σ Q (.bool k') s := by
  subst e
  exact ⟨.bl k, H, I, rfl, q⟩
theorem op_eq : OpR X (compareOp .Eq) rEq := by
  intro pins s σ H x y v u Q I rx ry h
  obtain ⟨hs, q⟩ := h
  cases x with
  | non =>
    cases rx
    cases y with
    | non => cases ry; exact PySem.EqNone.eq_none_none (fin_bl I q (by simp))
    | bl j => cases ry; exact PySem.EqNone.eq_none_bool (fin_bl I q (by simp))
    | int j => obtain ⟨t', rfl⟩ := ry; exact PySem.EqNone.eq_none_int (fin_bl I q (by simp))
    | str j => obtain ⟨t', rfl⟩ := ry; exact PySem.EqNone.eq_none_str (fin_bl I q (by simp))
    | _ => exact absurd (show false = true from hs) Bool.false_ne_true
  | bl i =>
    cases rx
    cases y with
    | non => cases ry; exact PySem.EqNone.eq_bool_none (fin_bl I q (by simp))
    | bl j => cases ry; exact eq_bool (fin_bl I q dec_bl)
    | str j => obtain ⟨t', rfl⟩ := ry; exact PySem.EqMixed.eq_bool_str (fin_bl I q (by simp))
    | _ => exact absurd (show false = true from hs) Bool.false_ne_true
  | int i =>
    obtain ⟨t, rfl⟩ := rx
    cases y with
    | non => cases ry; exact PySem.EqNone.eq_int_none (fin_bl I q (by simp))
    | int j => obtain ⟨t', rfl⟩ := ry; exact eq_int (fin_bl I q dec_int)
    | str j => obtain ⟨t', rfl⟩ := ry; exact PySem.EqMixed.eq_int_str (fin_bl I q (by simp))
    | _ => exact absurd (show false = true from hs) Bool.false_ne_true
  | str i =>
    obtain ⟨t, rfl⟩ := rx
    cases y with
    | non => cases ry; exact PySem.EqNone.eq_str_none (fin_bl I q (by simp))
    | bl j => cases ry; exact PySem.EqMixed.eq_str_bool (fin_bl I q (by simp))
    | int j => obtain ⟨t', rfl⟩ := ry; exact PySem.EqMixed.eq_str_int (fin_bl I q (by simp))
    | str j => obtain ⟨t', rfl⟩ := ry; exact eq_str (fin_bl I q dec_str)
    | _ => exact absurd (show false = true from hs) Bool.false_ne_true
  | byt i =>
    obtain ⟨t, rfl⟩ := rx
    cases y with
    | byt j => obtain ⟨t', rfl⟩ := ry; exact PySem.W.eq_bytes (fin_bl I q dec_byt)
    | _ => exact absurd (show false = true from hs) Bool.false_ne_true
  | _ => cases y <;> exact absurd (show false = true from hs) Bool.false_ne_true
theorem op_ne : OpR X (compareOp .NotEq) rNe := by
  intro pins s σ H x y v u Q I rx ry h
  obtain ⟨hs, q⟩ := h
  cases x with
  | non =>
    cases rx
    cases y with
    | non => cases ry; exact PySem.EqNone.ne_none_none (fin_bl I q (by simp))
    | bl j => cases ry; exact PySem.EqNone.ne_none_bool (fin_bl I q (by simp))
    | int j => obtain ⟨t', rfl⟩ := ry; exact PySem.EqNone.ne_none_int (fin_bl I q (by simp))
    | str j => obtain ⟨t', rfl⟩ := ry; exact PySem.EqNone.ne_none_str (fin_bl I q (by simp))
    | _ => exact absurd (show false = true from hs) Bool.false_ne_true
  | bl i =>
    cases rx
    cases y with
    | non => cases ry; exact PySem.EqNone.ne_bool_none (fin_bl I q (by simp))
    | bl j => cases ry; exact ne_bool (fin_bl I q (congrArg not dec_bl))
    | str j => obtain ⟨t', rfl⟩ := ry; exact PySem.EqMixed.ne_bool_str (fin_bl I q (by simp))
    | _ => exact absurd (show false = true from hs) Bool.false_ne_true
  | int i =>
    obtain ⟨t, rfl⟩ := rx
    cases y with
    | non => cases ry; exact PySem.EqNone.ne_int_none (fin_bl I q (by simp))
    | int j => obtain ⟨t', rfl⟩ := ry; exact ne_int (fin_bl I q (congrArg not dec_int))
    | str j => obtain ⟨t', rfl⟩ := ry; exact PySem.EqMixed.ne_int_str (fin_bl I q (by simp))
    | _ => exact absurd (show false = true from hs) Bool.false_ne_true
  | str i =>
    obtain ⟨t, rfl⟩ := rx
    cases y with
    | non => cases ry; exact PySem.EqNone.ne_str_none (fin_bl I q (by simp))
    | bl j => cases ry; exact PySem.EqMixed.ne_str_bool (fin_bl I q (by simp))
    | int j => obtain ⟨t', rfl⟩ := ry; exact PySem.EqMixed.ne_str_int (fin_bl I q (by simp))
    | str j => obtain ⟨t', rfl⟩ := ry; exact ne_str (fin_bl I q (congrArg not dec_str))
    | _ => exact absurd (show false = true from hs) Bool.false_ne_true
  | byt i =>
    obtain ⟨t, rfl⟩ := rx
    cases y with
    | byt j => obtain ⟨t', rfl⟩ := ry; exact PySem.W.ne_bytes (fin_bl I q (congrArg not dec_byt))
    | _ => exact absurd (show false = true from hs) Bool.false_ne_true
  | _ => cases y <;> exact absurd (show false = true from hs) Bool.false_ne_true

theorem op_lt : OpR X (compareOp .Lt) (rI0 fun i j => .bl (decide (i < j))) := opB0 fun _ _ _ _ _ _ _ q => lt_int q
theorem op_le : OpR X (compareOp .LtE) (rI0 fun i j => .bl (decide (i ≤ j))) := opB0 fun _ _ _ _ _ _ _ q => le_int q
theorem op_gt : OpR X (compareOp .Gt) (rI0 fun i j => .bl (decide (j < i))) := opB0 fun _ _ _ _ _ _ _ q => gt_int q




theorem nomark (b : Expr) {op : CmpOp} (h : op ≠ .In := by decide) (h2 : op ≠ .NotIn := by decide) : behindInMarks op b = false := by
  have e1 : (op == CmpOp.In) = false := by cases op <;> first | rfl | exact absurd rfl h
  have e2 : (op == CmpOp.NotIn) = false := by cases op <;> first | rfl | exact absurd rfl h2
  cases b <;> simp [behindInMarks, e1, e2]
theorem pe_cmpR {op : CmpOp} {r : R2} (ho : OpR X (compareOp op) r) (ha : PE X a ta) (hb : PE X b tb) (hm : behindInMarks op b = false) : PE X (.Compare a [op] [b] pos) (tOp r ta tb) := by
  intro pins s σ H Q I h
  exact wpAny_Compare1 (binT ha hb I h fun v u s2 x y H2 I2 rx ry q => ho pins s2 σ H2 x y v u Q I2 rx ry q) hm
def tTest (t : TE) : TT := fun σ H Q => t σ H fun x H' => ∃ k, x = .bl k ∧ Q k H'
theorem pt_cmpR {op : CmpOp} {r : R2} (ho : OpR X (compareOp op) r) (ha : PE X a ta) (hb : PE X b tb) (hm : behindInMarks op b = false) : PT X (.Compare a [op] [b] pos) (tTest (tOp r ta tb)) := by
  intro pins s σ H Q I h
  refine wpAny_isTrue_Compare1 (thn (ha pins s σ H _ I h) fun v s1 ⟨x, H1, I1, r1, q1⟩ => thn (hb pins s1 σ H1 _ I1 q1) fun u s2 ⟨y, H2, I2, r2, q2⟩ =>
    thn (ho pins s2 σ H2 x y v u _ I2 r1 r2 q2) fun c s3 ⟨z, H3, I3, r3, k, e, q3⟩ => ?_) hm
  subst e
  cases r3
  exact wpAny_truthy_bool ⟨H3, I3, q3⟩
def tChain (r r' : R2) (ta tb tc : TE) : TE := fun σ H Q => ta σ H fun x H1 => tb σ H1 fun y H2 => r x y H2 fun z H3 => ∃ k, z = .bl k ∧
  (if k = true then tc σ H3 fun w' H4 => r' y w' H4 Q else Q (.bl false) H3)
theorem pe_chain {op op' : CmpOp} {r r' : R2} (ho : OpR X (compareOp op) r) (ho' : OpR X (compareOp op') r') (ha : PE X a ta) (hb : PE X b tb) (hc : PE X c tc)
    (hm : lastMarks [op, op'] [b, c] = false := by with_unfolding_all rfl) : PE X (.Compare a [op, op'] [b, c] pos) (tChain r r' ta tb tc) := by
  intro pins s σ H Q I h
  refine Compare_chain (thn (ha pins s σ H _ I h) fun v s1 ⟨x, H1, I1, r1, q1⟩ => chain_link (thn (hb pins s1 σ H1 _ I1 q1) fun u s2 ⟨y, H2, I2, r2, q2⟩ =>
    thn (ho pins s2 σ H2 x y v u _ I2 r1 r2 q2) fun d s3 ⟨z, H3, I3, r3, k, e, q3⟩ => ?_)) hm
  subst e
  cases r3
  refine wpAny_truthy_bool ?_
  cases k with
  | false => exact ite_ff ⟨.bl false, H3, I3, rfl, q3⟩
  | true => exact ite_tt (chain_last (thn (hc pins s3 σ H3 _ I3 q3) fun w' s4 ⟨z', H4, I4, r4, q4⟩ => ho' pins s4 σ H4 y z' u w' Q I4 r2 r4 q4))
theorem pt_chain {op op' : CmpOp} {r r' : R2} (ho : OpR X (compareOp op) r) (ho' : OpR X (compareOp op') r') (ha : PE X a ta) (hb : PE X b tb) (hc : PE X c tc)
    (hm : lastMarks [op, op'] [b, c] = false := by with_unfolding_all rfl) : PT X (.Compare a [op, op'] [b, c] pos) (tTest (tChain r r' ta tb tc)) := by
  intro pins s σ H Q I h
  refine isTrue_chain (thn (ha pins s σ H _ I h) fun v s1 ⟨x, H1, I1, r1, q1⟩ => test_link (thn (hb pins s1 σ H1 _ I1 q1) fun u s2 ⟨y, H2, I2, r2, q2⟩ =>
    thn (ho pins s2 σ H2 x y v u _ I2 r1 r2 q2) fun d s3 ⟨z, H3, I3, r3, k, e, q3⟩ => ?_)) hm
  subst e
  cases r3
  refine wpAny_truthy_bool ?_
  cases k with
  | false =>
    obtain ⟨k', e', q'⟩ := q3
    cases e'
    exact ite_ff ⟨H3, I3, q'⟩
  | true =>
    refine ite_tt (test_last (thn (hc pins s3 σ H3 _ I3 q3) fun w' s4 ⟨z', H4, I4, r4, q4⟩ => thn (ho' pins s4 σ H4 y z' u w' _ I4 r2 r4 q4) fun d' s5 ⟨z2, H5, I5, r5, k2, e2, q5⟩ => ?_))
    subst e2
    cases r5
    exact wpAny_truthy_bool ⟨H5, I5, q5⟩

theorem line63 : (sizeLine : Nat) < 2 ^ 63 := by rw [sizeLine_eq]; decide



theorem vals1 {x : V} {us : List Value} (r : Vals [x] us) : ∃ u, us = [u] ∧ RelV x u := by
  cases r with
  | cons r1 r2 => cases r2; exact ⟨_, rfl, r1⟩
theorem vals2 {x y : V} {us : List Value} (r : Vals [x, y] us) : ∃ u w', us = [u, w'] ∧ RelV x u ∧ RelV y w' := by
  cases r with
  | cons r1 r2 =>
    cases r2 with
    | cons r3 r4 => cases r4; exact ⟨_, _, rfl, r1, r3⟩
theorem call_max2 (hc : X.calm = true) : CallR X (.builtin "max") (fun xs H Q => ∃ i j, xs = [.int i, .int j] ∧ Q (.int (if j > i then j else i)) H) := by
  intro pins s σ H xs us Q I r h
  obtain ⟨i, j, rfl, q⟩ := h
  obtain ⟨u, w', rfl, ⟨t, rfl⟩, ⟨t', rfl⟩⟩ := vals2 r
  refine max_two_ints (I.ok.hd hc) fun h' tk k => ⟨_, H, I.kept k, ?_, q⟩
  by_cases hj : j > i
  · rw [if_pos hj, if_pos hj]; exact ⟨_, rfl⟩
  · rw [if_neg hj, if_neg hj]; exact ⟨_, rfl⟩
theorem call_min2 (hc : X.calm = true) : CallR X (.builtin "min") (fun xs H Q => ∃ i j, xs = [.int i, .int j] ∧ Q (.int (if j < i then j else i)) H) := by
  intro pins s σ H xs us Q I r h
  obtain ⟨i, j, rfl, q⟩ := h
  obtain ⟨u, w', rfl, ⟨t, rfl⟩, ⟨t', rfl⟩⟩ := vals2 r
  refine min_two_ints (I.ok.hd hc) fun h' tk k => ⟨_, H, I.kept k, ?_, q⟩
  by_cases hj : j < i
  · rw [if_pos hj, if_pos hj]; exact ⟨_, rfl⟩
  · rw [if_neg hj, if_neg hj]; exact ⟨_, rfl⟩
theorem call_int1 : CallR X (.type "int") (fun xs H Q => (∃ i, xs = [.int i] ∧ Q (.int i) H) ∨ ∃ k, xs = [.bl k] ∧ Q (.int (if k then 1 else 0)) H) := by
  intro pins s σ H xs us Q I r h
  rcases h with ⟨i, rfl, q⟩ | ⟨k, rfl, q⟩
  · obtain ⟨u, rfl, t, rfl⟩ := vals1 r
    exact call_int_int ⟨.int i, H, I, ⟨_, rfl⟩, q⟩
  · obtain ⟨u, rfl, r1⟩ := vals1 r
    cases r1
    exact call_int_bool ⟨.int (if k then 1 else 0), H, I.tok _, ⟨_, rfl⟩, q⟩
theorem call_str_int : CallR X (.type "str") (fun xs H Q => ∃ i, xs = [.int i] ∧ i.natAbs.log2 < 1920 ∧ Q (.str (toString i)) H) := by
  intro pins s σ H xs us Q I r h
  obtain ⟨i, rfl, hz, q⟩ := h
  obtain ⟨u, rfl, t, rfl⟩ := vals1 r
  exact PySem.P.str_of_int hz ⟨.str _, H, I.tok _, ⟨_, rfl⟩, q⟩
end
end L2

namespace L2
open PySem PySem.Spec PyProof.Rows

structure ObjM (h : Heap) (x dx C : Addr) (mA : Str → Option Value) : Prop where
  obj : h.get? x = some (PySem.W.instObj C dx)
  ns : h.Ns1 dx mA
  ne : dx ≠ x

theorem lookIn_ns {h : Heap} {dx : Addr} {mA : Str → Option Value} (n : h.Ns1 dx mA) : ∃ od, h.get? dx = some od ∧ ∀ name, PySem.W.lookIn name od = some (mA name) := by
  obtain ⟨o, es, ep, ho, hd, hk, _, hm⟩ := n
  refine ⟨o, ho, fun name => ?_⟩
  have e := hm name
  unfold nsFind findBy at e
  rw [← Array.find?_toList] at e
  unfold PySem.W.lookIn
  rw [hd]
  dsimp only
  split
  · rename_i y q
    rw [q] at e
    exact congrArg some e
  · rename_i q
    rw [q] at e
    have a : es.toList.any (·.refKey) = false := by
      rw [List.any_eq_false]
      intro y hy
      obtain ⟨z, t, hkey⟩ := hk y (Array.mem_toList_iff.mp hy)
      simp [DictEntry.refKey, hkey]
    have a' : ¬ es.toList.any (·.refKey) = true := by rw [a]; exact Bool.false_ne_true
    rw [if_neg a']
    exact congrArg some e

theorem ObjM.look {h : Heap} {x dx C : Addr} {mA : Str → Option Value} (I : ObjM h x dx C mA) : ∃ od, PySem.W.InstAt h x (PySem.W.instObj C dx) C (some od) ∧ ∀ name, PySem.W.lookIn name od = some (mA name) :=
  let ⟨od, ho, hl⟩ := lookIn_ns I.ns
  ⟨od, ⟨I.obj, rfl, rfl, ho⟩, hl⟩

section
variable {prog : Program} {w : World} {A : Around} {E : Value → Shared → Prop} {s : Shared} {K : PySem.W.Frag} {x dx C f : Addr} {mA : Str → Option Value} {name : Str} {v : Value}





end



section
variable {P : Program} {w : World} {H H' : Hp} {h h' : Heap} {a C dx : Addr} {fs fs' : List (Str × V)}
theorem ins_get (hok : HOk P w H h) (e : H a = some (.ins C dx fs)) : ∃ mA, ObjM h a dx C mA ∧ (∀ f, RelO (fs.lookup f) (mA f)) ∧ PySem.Within mA (fs.map (·.1)) ∧ fs.length ≤ 1000 ∧ H dx = some (.own a) := by
  obtain ⟨d, z, ne, ob, mA, n, r, q⟩ := (show ObjOk P w H h a (.ins C dx fs) from hok a _ e)
  exact ⟨mA, ⟨ob, n, ne⟩, r, q, z, d⟩
end

structure Cls (K : PySem.W.Frag) (C : Addr) : Prop where
  pg : PySem.W.plainGet K C Str.empty = true
  hd : PySem.W.hasDictIn K C = true
  po : PySem.W.plainOver K C = true
  sa : PySem.W.findIn K (.ref C) "__setattr__" = some (some (.builtin "object.__setattr__"))
theorem Cls.get {K : PySem.W.Frag} {C : Addr} (c : Cls K C) (f : Str) : PySem.W.plainGet K C f = true := c.pg
def NoAttr (K : PySem.W.Frag) (C : Addr) (f : Str) : Prop := PySem.W.findIn K (.ref C) f = some none
structure Con (K : PySem.W.Frag) (C : Addr) (f : Str) (v : V) (u : Value) : Prop where
  at_ : PySem.W.findIn K (.ref C) f = some (some u)
  rel : RelV v u
  get : PySem.W.specialIn K u "__get__" = some none
  cp : PySem.W.copiedNames.contains f = false
structure Meth (K : PySem.W.Frag) (C : Addr) (m : Str) (f : Addr) : Prop where
  at_ : PySem.W.findIn K (.ref C) m = some (some (.ref f))
  fn : PySem.W.isFn K (.ref f) = true
  kp : PySem.W.keepIn K (.ref f) = true

section
variable {X : Cx} {pins : List (Addr × Obj)} {σ : St} {H : Hp} {s : Shared} {a C dx : Addr} {fs : List (Str × V)} {f : Str} {v : V} {A : Around} {E : Value → Shared → Prop}





theorem Inv.made (I : Inv X pins σ H s) : Inv X pins σ (upd (upd H s.heap.objs.size (.own (s.heap.objs.size + 1))) (s.heap.objs.size + 1) (.ins C s.heap.objs.size []))
    { s with heap := (s.heap.push PySem.W.emptyDict).push (PySem.W.instObj C s.heap.objs.size) } := by
  have e1 : (s.heap.push PySem.W.emptyDict).get? s.heap.objs.size = some PySem.W.emptyDict := Heap.get?_push_size s.heap rfl
  have e2 : ((s.heap.push PySem.W.emptyDict).push (PySem.W.instObj C s.heap.objs.size)).get? (s.heap.objs.size + 1) = some (PySem.W.instObj C s.heap.objs.size) := by
    have := Heap.get?_push_size (s.heap.push PySem.W.emptyDict) (o := PySem.W.instObj C s.heap.objs.size) rfl
    rwa [Heap.size_push] at this
  have e3 : (s.heap.push PySem.W.emptyDict).Ns s.heap.objs.size (fun _ => none) := ⟨PySem.W.emptyDict, #[], _, e1, rfl, (fun e he => absurd he (by simp)), fun _ => rfl⟩
  have I1 := I.laid (a := s.heap.objs.size) (o := .own (s.heap.objs.size + 1)) (h' := s.heap.push PySem.W.emptyDict) (t' := s.toks) (fun b u q => Heap.get?_push_of_some _ q) (Nat.le_refl _) ⟨_, e1⟩
  refine I1.laid (a := s.heap.objs.size + 1) (o := .ins C s.heap.objs.size []) (t' := s.toks) (fun b u q => Heap.get?_push_of_some _ q) (Nat.le_of_eq (Heap.size_push _ _)) ?_
  have ne : s.heap.objs.size ≠ s.heap.objs.size + 1 := Nat.ne_of_lt (Nat.lt_succ_self _)
  refine ⟨by rw [upd_ne ne, upd_same], Nat.zero_le _, ne, e2, fun _ => none, (Heap.Ns1.of_empty e3).at fun o q => Heap.get?_push_of_some _ q, fun _ => True.intro, fun y hy => absurd rfl hy⟩

end


section
variable {X : Cx} {o e value : Expr} {f : Str} {pos pos' tpos : Pos} {ta tv : TE}

end

section
variable {X : Cx} {pins : List (Addr × Obj)} {σ : St} {H : Hp} {s : Shared} {A : Around} {E : Value → Shared → Prop} {Q : Value → Shared → Prop} {c : Value} {b : Bool}
inductive TyOf (K : PySem.W.Frag) (H : Hp) : V → Value → Prop where
  | non : TyOf K H .non (.type "NoneType")
  | bl (x : Bool) : TyOf K H (.bl x) (.type "bool")
  | int (i : Int) : TyOf K H (.int i) (.type "int")
  | str (x : Str) : TyOf K H (.str x) (.type "str")
  | flt (x : UInt64) : TyOf K H (.flt x) (.type "float")
  | lst {a : Addr} {xs : List V} (e : H a = some (.lst xs)) : TyOf K H (.ref a) (.type "list")
  | frz {a : Addr} {o : Obj} {xs : List V} (e : H a = some (.frz o (.lst xs))) : TyOf K H (.ref a) (.type "list")
  | tup {a : Addr} {xs : List V} (e : H a = some (.tup xs)) : TyOf K H (.ref a) (.type "tuple")
  | dK {a : Addr} {kvs : List (Key × V)} (e : H a = some (.dK kvs)) : TyOf K H (.ref a) (.type "dict")
  | dT {a : Addr} {kvs : List (List Key × V)} (e : H a = some (.dT kvs)) : TyOf K H (.ref a) (.type "dict")
  | ins {a C dx : Addr} {fs : List (Str × V)} (e : H a = some (.ins C dx fs)) (cl : Cls K C) (ha : PySem.W.findIn K (.ref C) "__class__" = some (some (.builtin "object.__class__")))
      (hn : PySem.W.specialIn K (.builtin "object.__class__") "__get__" = some (some (.builtin "getset_descriptor.__get__"))) (htk : PySem.W.takesIn K (.builtin "object.__class__") = some true)
      (hm : PySem.W.mroIn K C (.type "object") = some true) : TyOf K H (.ref a) (.ref C)
theorem isinst_ok {x : V} {u t : Value} (I : Inv X pins σ H s) (rx : RelV x u) (ty : TyOf X.K H x t) (e : PySem.W.kitOne X.K t c = some b) (h : ∀ tk, Q (.bool b) { s with toks := tk }) :
    wpAny (model X.prog X.w) A (call (.builtin "isinstance") [u, c]) Q E s := by
  cases ty with
  | non => cases (show u = Value.none from rx); exact PySem.W.kia_one PySem.W.kitx_none I.kIn True.intro e (fun z => nomatch z) h
  | bl y => cases (show u = Value.bool y from rx); exact PySem.W.kia_one PySem.W.kitx_bool I.kIn True.intro e (fun z => nomatch z) h
  | int i => obtain ⟨t, q⟩ := (show ∃ t, u = Value.int i t from rx); cases q; exact PySem.W.kia_one PySem.W.kitx_int I.kIn True.intro e (fun z => nomatch z) h
  | str y => obtain ⟨t, q⟩ := (show ∃ t, u = Value.str y t from rx); cases q; exact PySem.W.kia_one PySem.W.kitx_str I.kIn True.intro e (fun z => nomatch z) h
  | flt y => obtain ⟨t, q⟩ := (show ∃ t, u = Value.float y t from rx); cases q; exact PySem.W.kia_one PySem.W.kitx_float I.kIn True.intro e (fun z => nomatch z) h
  | @lst a xs ea =>
    cases (show u = Value.ref a from rx)
    obtain ⟨_, _, n, _, h1⟩ := (show ObjOk X.prog X.w H s.heap a (.lst xs) from I.hok a _ ea)
    exact PySem.W.kia_one PySem.W.kitx_list I.kIn ⟨_, h1, rfl⟩ e (fun z => nomatch z) h
  | @frz a ob xs ea =>
    cases (show u = Value.ref a from rx)
    obtain ⟨_, _, _, n, _, h1⟩ := (show ObjOk X.prog X.w H s.heap a (.frz ob (.lst xs)) from I.hok a _ ea)
    exact PySem.W.kia_one PySem.W.kitx_list I.kIn ⟨_, h1, rfl⟩ e (fun z => nomatch z) h
  | @tup a xs ea =>
    cases (show u = Value.ref a from rx)
    obtain ⟨_, _, _, p⟩ := (show ObjOk X.prog X.w H s.heap a (.tup xs) from I.hok a _ ea)
    obtain ⟨o, h1, h2, _⟩ := p
    exact PySem.W.kia_one PySem.W.kitx_tuple I.kIn ⟨o, h1, h2⟩ e (fun z => nomatch z) h
  | @dK a kvs ea =>
    cases (show u = Value.ref a from rx)
    obtain ⟨_, _, vs, _, p⟩ := (show ObjOk X.prog X.w H s.heap a (.dK kvs) from I.hok a _ ea)
    obtain ⟨o, es, ep, h1, h2, _⟩ := p
    exact PySem.W.kia_one PySem.W.kitx_dict I.kIn ⟨o, h1, h2.1⟩ e (fun z => nomatch z) h
  | @dT a kvs ea =>
    cases (show u = Value.ref a from rx)
    obtain ⟨_, _, xs, _, o, es, ep, h1, h2, _⟩ := (show ObjOk X.prog X.w H s.heap a (.dT kvs) from I.hok a _ ea)
    exact PySem.W.kia_one PySem.W.kitx_dict I.kIn ⟨o, h1, h2.1⟩ e (fun z => nomatch z) h
  | @ins a C dx fs ea cl ha hn htk hm =>
    cases (show u = Value.ref a from rx)
    obtain ⟨mA, O, _⟩ := ins_get I.hok ea
    obtain ⟨od, J, _⟩ := O.look
    exact PySem.W.kia_one (PySem.W.kitx_own (cl.get _) cl.hd ha hn htk hm) I.kIn J e (fun z => nomatch z) h
end
end L2

namespace L2
open PySem PySem.Spec PyProof.Rows

structure Room (k : Nat) (A : Around) : Prop where
  hd : A.handled = none
  dp : A.depth + 3 * k + 5 < recursionLimit
  un : A.units + 16 * k + 200 < cLine
  gd : A.guards = some []
theorem Room.mono {j k : Nat} {A : Around} (r : Room k A) (h : j ≤ k) : Room j A := ⟨r.hd, by have := r.dp; omega, by have := r.un; omega, r.gd⟩
theorem Room.deeper {k : Nat} {A : Around} (r : Room (k + 1) A) (env : Env) : Room k (A.deeper env) :=
  ⟨r.hd, by have := r.dp; show A.depth + 1 + 3 * k + 5 < _; omega, by have := r.un; show A.units + 3 + 16 * k + 200 < _; omega, r.gd⟩
theorem Room.in1 {k : Nat} {A : Around} (r : Room (k + 1) A) : Room k A.in1 :=
  ⟨r.hd, by have := r.dp; show A.depth + 3 * k + 5 < _; omega, by have := r.un; show A.units + 1 + 16 * k + 200 < _; omega, r.gd⟩
theorem Room.depth {k : Nat} {A : Around} (r : Room k A) : A.depth < recursionLimit := by have := r.dp; omega
theorem Room.units {k : Nat} {A : Around} (r : Room k A) : A.units + 64 < cLine := by have := r.un; omega
theorem Room.units0 {k : Nat} {A : Around} (r : Room k A) : A.units < cLine := by have := r.un; omega

def tNil : TA := fun _ H Q => Q [] H
def tCons (ta : TE) (tr : TA) : TA := fun σ H Q => ta σ H fun x H1 => tr σ H1 fun xs H2 => Q (x :: xs) H2
section
variable {X : Cx} {e : Expr} {es : List Expr} {te : TE} {t : TA} {pos : Pos}
theorem pa_nil : PA X [] tNil := fun _ _ _ _ H Q I h => Calls.spliced_nil ⟨[], H, I, .nil, h⟩
theorem pa_cons (ha : PE X e te) (hr : PA X es t) (hs : starEach (e :: es) X.env = (false, eval e X.env) :: starEach es X.env := by rfl) : PA X (e :: es) (tCons te t) := by
  intro pos pins s σ H Q I h
  rw [hs]
  show wpAny _ _ (spliced ((false, eval e X.env) :: backTo pos (starEach es X.env))) _ _ s
  refine Calls.spliced_cons (thn (ha pins s σ H _ I h) fun u s1 ⟨x, H1, I1, r1, q1⟩ => ?_)
  exact thn (hr pos pins s1 σ H1 _ I1 q1) fun us s2 ⟨xs, H2, I2, r2, q2⟩ => ⟨x :: xs, H2, I2, .cons r1 r2, q2⟩

def tTup (t : TA) : TE := fun σ H Q => t σ H fun xs H1 => xs.length ≤ sizeLine ∧ ∀ p, H1 p = none → Q (.ref p) (upd H1 p (.tup xs))
def tLst (t : TA) : TE := fun σ H Q => t σ H fun xs H1 => xs.length ≤ sizeLine ∧ ∀ p, H1 p = none → Q (.ref p) (upd H1 p (.lst xs))
theorem pe_tup {x1} (h : PA X es t) : PE X (.Tuple es x1 pos) (tTup t) := by
  intro pins s σ H Q I hq
  refine wpAny_Tuple_spliced (thn (h pos pins s σ H _ I hq) fun us s1 ⟨xs, H1, I1, r, z, q⟩ => ⟨by rw [← r.length]; exact z, ?_⟩)
  have hf : H1 s1.heap.objs.size = none := I1.hok.fresh (Nat.le_refl _)
  refine ⟨.ref s1.heap.objs.size, upd H1 s1.heap.objs.size (.tup xs), I1.laid (t' := s1.toks) (fun b u e => Heap.get?_push_of_some _ e) (Nat.le_refl _) ?_, rfl, q _ hf⟩
  exact ⟨z, us, r, ⟨_, Heap.get?_push_size _ rfl, rfl, _, rfl⟩⟩
theorem pe_lst (h : PA X es t) : PE X (.List es pos) (tLst t) := by
  intro pins s σ H Q I hq
  refine wpAny_List_spliced (thn (h pos pins s σ H _ I hq) fun us s1 ⟨xs, H1, I1, r, z, q⟩ => ⟨by rw [← r.length]; exact z, ?_⟩)
  have hf : H1 s1.heap.objs.size = none := I1.hok.fresh (Nat.le_refl _)
  refine ⟨.ref s1.heap.objs.size, upd H1 s1.heap.objs.size (.lst xs), I1.laid (t' := s1.toks) (fun b u e => Heap.get?_push_of_some _ e) (Nat.le_refl _) ?_, rfl, q _ hf⟩
  exact ⟨z, us, 0, r, Heap.get?_push_size _ rfl⟩
end

abbrev Sp := List V → Hp → VK → XK → Prop
abbrev CXT := List Env → Hp → Shared → XK → Value → Shared → Prop

structure Env0 (P : Program) (w : World) (K : PySem.W.Frag) (mg : Str → Option Value) (base : Heap) (A : Around) (outer : List Env) (s : Shared) (H : Hp) : Prop where
  frames : A.frames = some outer
  mod : Mod K mg base
  bs : ∀ b o, base.get? b = some o → s.heap.get? b = some o ∧ H b = none
  bsz : base.objs.size ≤ s.heap.objs.size
  funs : s.heap.FunFrames base outer
  frf : ∀ b ∈ frs outer, H b = none
  hok : HOk P w H s.heap
  bare : AllBare s.gens
def CE (outer : List Env) (P : Program) (w : World) (H : Hp) (s : Shared) (Q : VK) (u : Value) (s' : Shared) : Prop :=
  ∃ v H', s'.os = s.os ∧ AllBare s'.gens ∧ Un (frs outer) [] H H' s.heap s'.heap ∧ HOk P w H' s'.heap ∧ RelV v u ∧ Q v H'
def CR (CX : CXT) (outer : List Env) (P : Program) (w : World) (H : Hp) (s : Shared) (Q : VK) (E : XK) (r : Result) (s' : Shared) : Prop :=
  match r with
  | .ok (.ret u) => CE outer P w H s Q u s'
  | .ok _ => False
  | .error e => CX outer H s E e s'
structure FnOk (P : Program) (w : World) (K : PySem.W.Frag) (mg : Str → Option Value) (base : Heap) (CX : CXT) (k : Nat) (f : Addr) (fd : FuncData) (ps : List Str) (sp : Sp) : Prop where
  len : ∀ vs H Q E, sp vs H Q E → vs.length = ps.length
  run : ∀ (A : Around) (outer : List Env) (s : Shared) (H : Hp) (args : Args) (us : List Value) (vs : List V) (Q : VK) (E : XK), Room k A → Env0 P w K mg base A outer s H → BindsTo s fd args (ps.zip us) → Vals vs us → sp vs H Q E →
    codeAny (model P w) A (.call (.ref f) args) (CR CX outer P w H s Q E) s
theorem FnOk.mono {P : Program} {w : World} {K : PySem.W.Frag} {mg : Str → Option Value} {base : Heap} {CX : CXT} {j k : Nat} {f : Addr} {fd : FuncData} {ps : List Str} {sp : Sp} (F : FnOk P w K mg base CX j f fd ps sp) (h : j ≤ k) :
    FnOk P w K mg base CX k f fd ps sp := ⟨F.len, fun A outer s H args us vs Q E hr => F.run A outer s H args us vs Q E (hr.mono h)⟩
theorem FnOk.imp {P : Program} {w : World} {K : PySem.W.Frag} {mg : Str → Option Value} {base : Heap} {CX : CXT} {k : Nat} {f : Addr} {fd : FuncData} {ps : List Str} {sp sp' : Sp} (F : FnOk P w K mg base CX k f fd ps sp)
    (h : ∀ vs H Q E, sp' vs H Q E → sp vs H Q E) : FnOk P w K mg base CX k f fd ps sp' :=
  ⟨fun vs H Q E q => F.len vs H Q E (h _ _ _ _ q), fun A outer s H args us vs Q E hr he hb hv hs => F.run A outer s H args us vs Q E hr he hb hv (h _ _ _ _ hs)⟩

theorem Env0.in1 {P : Program} {w : World} {K : PySem.W.Frag} {mg : Str → Option Value} {base : Heap} {A : Around} {outer : List Env} {s : Shared} {H : Hp} (e : Env0 P w K mg base A outer s H) :
    Env0 P w K mg base A.in1 outer s H := ⟨e.frames, e.mod, e.bs, e.bsz, e.funs, e.frf, e.hok, e.bare⟩

section
variable {X : Cx} {pins : List (Addr × Obj)} {σ : St} {H : Hp} {s s' : Shared}
theorem Inv.env0 (I : Inv X pins σ H s) : Env0 X.prog X.w X.K X.mg X.base X.A X.stack s H :=
  ⟨I.ok.frames, I.ok.mod, I.bs, Nat.le_trans I.ok.bsz I.sz, I.stack, I.stkFree, I.hok, I.bare⟩
theorem Inv.after {Q : VK} {u : Value} (I : Inv X pins σ H s) (h : CE X.stack X.prog X.w H s Q u s') : EP X pins σ Q u s' := by
  obtain ⟨v, H', os, bare, un, hok, r, q⟩ := h
  obtain ⟨hh, g, d, t, os'⟩ := s'
  obtain rfl : os' = s.os := os
  exact ⟨v, H', I.call (h' := hh) (g' := g) (d' := d) (t' := t) (ch := []) un hok bare (fun b z => absurd z (by simp)), r, q⟩
end

def tCall (sp : Sp) (dvs : List V) (E : XK) (t : TA) : TE := fun σ H Q => t σ H fun vs H1 => sp (vs ++ dvs) H1 Q E

def Binds (K : PySem.W.Frag) (fd : FuncData) (ps : List Str) (ds : List Value) : Prop :=
  ∀ (s : Shared) (us : List Value), K.In s.heap → (us ++ ds).length = ps.length → BindsTo s fd ⟨us, []⟩ (ps.zip (us ++ ds))
theorem Binds.all {K : PySem.W.Frag} {fd : FuncData} {ps : List Str} (h : ∀ us : List Value, us.length = ps.length → bindArgs fd ⟨us, []⟩ = pure (ps.zip us)) : Binds K fd ps [] := fun s us _ hl => by
  rw [List.append_nil] at hl ⊢
  exact .of_eq (h us hl)

def Passes (CX : CXT) (X : Cx) (E : XK) : Prop := ∀ (pins : List (Addr × Obj)) (σ : St) (H : Hp) (s : Shared) (e : Value) (s' : Shared), Inv X pins σ H s → CX X.stack H s E e s' → X.xe e s'

section
variable {X : Cx} {CX : CXT} {k : Nat} {f C : Addr} {fd : FuncData} {ps : List Str} {sp : Sp} {dvs : List V} {ds : List Value} {E : XK} {x m : Str} {p pos apos : Pos} {e o : Expr} {es : List Expr} {ta : TE} {t : TA}

theorem run_fn {pins : List (Addr × Obj)} {σ : St} {H : Hp} {s : Shared} {Q : VK} {us : List Value} {vs : List V} (F : FnOk X.prog X.w X.K X.mg X.base CX k f fd ps sp) (hr : Room k X.A) (hb : Binds X.K fd ps ds) (hd : Vals dvs ds) (hx : Passes CX X E)
    (I : Inv X pins σ H s) (r : Vals vs us) (h : sp (vs ++ dvs) H Q E) : wpAny (model X.prog X.w) X.A (call (.ref f) us) (EP X pins σ Q) X.xe s := by
  have r2 : Vals (vs ++ dvs) (us ++ ds) := r.append hd
  have hl : (us ++ ds).length = ps.length := by rw [← r2.length]; exact F.len _ _ _ _ h
  refine wpAny_call (codeAny_mono (F.run X.A X.stack s H ⟨us, []⟩ (us ++ ds) (vs ++ dvs) Q E hr I.env0 (hb s us I.kIn hl) r2 h) fun r s' hq => ?_)
  cases r with
  | error e => exact hx pins σ H s e s' I hq
  | ok fl =>
    cases fl with
    | ret u => exact I.after hq
    | next => exact False.elim hq
    | brk => exact False.elim hq
    | cont => exact False.elim hq

theorem pe_call (F : FnOk X.prog X.w X.K X.mg X.base CX k f fd ps sp) (hr : Room k X.A) (hg : Gl X x) (hm : X.mg x = some (.ref f)) (hk : PySem.W.keepIn X.K (.ref f) = true) (hb : Binds X.K fd ps ds) (hd : Vals dvs ds) (hx : Passes CX X E)
    (ha : PA X (e :: es) t) (hdb : (x == ("__debug__" : Str)) = false := by decide) (he : starEach (e :: es) X.env = (false, eval e X.env) :: starEach es X.env := by rfl) (hpl : (backTo pos (starEach es X.env)).any (·.1) = false := by rfl) :
    PE X (.Call (.Name x p) (e :: es) [] pos) (tCall sp dvs E t) := by
  intro pins s σ H Q I h
  refine wpAny_Call_Name_kw (ld_glob I hg hm ?_ hdb)
  refine PySem.W.callWith_K (h₀ := X.base) I.ok.mod.kin hk (thn (ha pos pins s σ H _ I h) fun us s1 ⟨vs, H1, I1, r, q⟩ => ⟨I1.kIn, ?_⟩) he hpl
  exact run_fn F hr hb hd hx I1 r q


structure Mk (K : PySem.W.Frag) (C f : Addr) : Prop where
  makes : PySem.W.makesIn K C = true
  init : PySem.W.findIn K (.ref C) "__init__" = some (some (.ref f))
  fn : PySem.W.isFn K (.ref f) = true
  kp : PySem.W.keepIn K (.ref C) = true

end

section
variable {X : Cx} {CX : CXT} {k : Nat} {f C : Addr} {fd : FuncData} {ps ks : List Str} {sp : Sp} {E : XK} {x m : Str} {p pos apos kpos : Pos} {e o : Expr} {es : List Expr} {kws : List Keyword} {te ta : TE} {t tk : TA} {nm : Option Str}

structure KBinds (K : PySem.W.Frag) (fd : FuncData) (ps ks : List Str) (g : List Value → List Value → List Value) (gV : List V → List V → List V) : Prop where
  to : ∀ (s : Shared) (us ws : List Value), K.In s.heap → (g us ws).length = ps.length → BindsTo s fd ⟨us, ks.zip ws⟩ (ps.zip (g us ws))
  rel : ∀ {vs : List V} {us : List Value} {zs : List V} {ws : List Value}, Vals vs us → Vals zs ws → Vals (gV vs zs) (g us ws)
variable {g : List Value → List Value → List Value} {gV : List V → List V → List V}
end

structure FnScope (N P : List Str) (sc : Scope) : Prop where
  kind : sc.kind = .function
  co : sc.isCoroutine = false
  gen : sc.isGenerator = false
  nd : N.Nodup
  pre : N.take P.length = P
  par : ∀ x ∈ P, sc.names.lookup x = some .local ∨ sc.names.lookup x = some .cell
  nofree : ∀ y ∈ sc.names, y.2 ≠ .free

theorem bindL_out {kindOf : Str → Option NameKind} {x : Str} : ∀ {binds : List (Str × Value)} {m : Str → Option Value}, (∀ v, (x, v) ∉ binds) → bindL kindOf binds m x = m x
  | [], _, _ => rfl
  | (n, v) :: r, m, h => by
    unfold bindL
    rw [bindL_out fun w hw => h w (List.mem_cons_of_mem _ hw)]
    split
    · have : x ≠ n := by rintro rfl; exact h v List.mem_cons_self
      simp [this]
    · rfl
theorem bindC_out {kindOf : Str → Option NameKind} {x : Str} : ∀ {binds : List (Str × Value)} {m : Str → Option Value}, (∀ v, (x, v) ∉ binds) → bindC kindOf binds m x = m x
  | [], _, _ => rfl
  | (n, v) :: r, m, h => by
    unfold bindC
    rw [bindC_out fun w hw => h w (List.mem_cons_of_mem _ hw)]
    split
    · rfl
    · have : x ≠ n := by rintro rfl; exact h v List.mem_cons_self
      simp [this]
theorem bindL_get {kindOf : Str → Option NameKind} {x : Str} {v : Value} : ∀ {P : List Str} {vs : List Value} {i : Nat} {m : Str → Option Value}, P.Nodup → P[i]? = some x → vs[i]? = some v → kindOf x = some .local →
    bindL kindOf (P.zip vs) m x = some v
  | [], _, _, _, _, h, _, _ => by simp at h
  | _ :: _, [], _, _, _, _, h, _ => by simp at h
  | p :: P, w :: vs, 0, m, nd, h1, h2, hk => by
    simp at h1 h2; subst h1; subst h2
    show bindL kindOf ((p, w) :: P.zip vs) m p = _
    unfold bindL
    rw [bindL_out fun v hv => (List.nodup_cons.mp nd).1 (List.of_mem_zip hv).1, if_pos hk]
    simp
  | p :: P, w :: vs, i + 1, m, nd, h1, h2, hk => by
    show bindL kindOf ((p, w) :: P.zip vs) m x = _
    unfold bindL
    exact bindL_get (i := i) (List.nodup_cons.mp nd).2 (by simpa using h1) (by simpa using h2) hk
theorem bindC_get {kindOf : Str → Option NameKind} {x : Str} {v : Value} : ∀ {P : List Str} {vs : List Value} {i : Nat} {m : Str → Option Value}, P.Nodup → P[i]? = some x → vs[i]? = some v → kindOf x ≠ some .local →
    bindC kindOf (P.zip vs) m x = some v
  | [], _, _, _, _, h, _, _ => by simp at h
  | _ :: _, [], _, _, _, _, h, _ => by simp at h
  | p :: P, w :: vs, 0, m, nd, h1, h2, hk => by
    simp at h1 h2; subst h1; subst h2
    show bindC kindOf ((p, w) :: P.zip vs) m p = _
    unfold bindC
    rw [bindC_out fun v hv => (List.nodup_cons.mp nd).1 (List.of_mem_zip hv).1, if_neg hk]
    simp
  | p :: P, w :: vs, i + 1, m, nd, h1, h2, hk => by
    show bindC kindOf ((p, w) :: P.zip vs) m x = _
    unfold bindC
    exact bindC_get (i := i) (List.nodup_cons.mp nd).2 (by simpa using h1) (by simpa using h2) hk

def start (N : List Str) (vs : List V) : St := vs.map some ++ List.replicate (N.length - vs.length) none

def cxOf (CX : CXT) (P : Program) (w : World) (K : PySem.W.Frag) (mg : Str → Option Value) (base : Heap) (N : List Str) (qual : Str) (scope : Scope) (f : Addr) (cd : Value) (A : Around) (outer : List Env) (s : Shared) (H : Hp) (E : XK) : Cx where
  prog := P
  w := w
  K := K
  mg := mg
  base := base
  A := A.deeper (envOfC qual scope s.heap.objs.size f cd)
  N := N
  s₀ := s
  H₀ := H
  env := envOfC qual scope s.heap.objs.size f cd
  outer := outer
  stack := envOfC qual scope s.heap.objs.size f cd :: outer
  ex := []
  calm := true
  fn := fun _ => true
  pn := []
  xe := fun e s' => wpAny (model P w) (A.deeper (envOfC qual scope s.heap.objs.size f cd)) (leaving (envOfC qual scope s.heap.objs.size f cd) e) (fun _ s'' => CX outer H s E e s'') (fun e' s'' => CX outer H s E e' s'') s'

theorem cell_has {sc : Scope} {n : Nat} {x : Str} (h : sc.names.lookup x = some .cell) : ∃ c, (cellsFrom n sc.names []).lookup x = some c := by
  have q := PySem.W.cellsFrom_some sc.names n [] (.inl h)
  exact Option.isSome_iff_exists.mp q

theorem inv_start {CX : CXT} {P : Program} {w : World} {K : PySem.W.Frag} {mg : Str → Option Value} {base : Heap} {N ps : List Str} {qual : Str} {scope : Scope} {f : Addr} {cd : Value} {A : Around} {outer : List Env} {s s1 : Shared} {H : Hp} {E : XK} {us : List Value} {vs : List V}
    (S : FnScope N ps scope) (hd : A.handled = none) (e0 : Env0 P w K mg base A outer s H) (hl : vs.length = ps.length) (r : Vals vs us)
    (x : InCallC s s.heap.objs.size (bindL (envOfC qual scope s.heap.objs.size f cd).kindOf (ps.zip us) fun _ => none) (cellsFrom (s.heap.objs.size + 1) scope.names []) (bindC (envOfC qual scope s.heap.objs.size f cd).kindOf (ps.zip us) fun _ => none) s1) :
    Inv (cxOf CX P w K mg base N qual scope f cd A outer s H E) [] (start N vs) H s1 := by
  have hpl : ps.length ≤ N.length := by have := congrArg List.length S.pre; rw [List.length_take] at this; omega
  obtain ⟨h1, tk, rfl, hk⟩ := x.done
  have noA : ∀ b : Addr, b ∉ (cxOf CX P w K mg base N qual scope f cd A outer s H E).ex := fun b z => absurd (show b ∈ ([] : List Addr) from z) (by simp)
  refine ⟨⟨e0.mod, S.kind, rfl, rfl, Nat.le_refl _, fun y z c h1 h2 => ?_, fun y hy => ?_, fun y c _ h => ?_, fun _ => hd, Around.frames_deeper e0.frames, .inr ⟨rfl, rfl⟩, fun b z => absurd z (noA b), e0.bs, e0.bsz, fun b _ _ => noA b, fun b z => absurd z (noA b), e0.funs, e0.frf⟩,
    rfl, e0.bare, Un.kept hk, ⟨_, x.toInCall.ns, fun i y v h1 h2 h3 => ?_⟩, fun y c h => ⟨_, x.cell y c h⟩, e0.hok.fresh (Nat.le_refl _), fun y c h => ?_, fun p hp => absurd (show p ∈ ([] : List (Addr × Obj)) from hp) (by simp), e0.hok.kept hk, ?_⟩
  · exact name_of_addr x.apart (PySem.mem_of_lookup h1) (PySem.mem_of_lookup h2)
  · have hy : scope.names.lookup y = some .cell ∨ scope.names.lookup y = some .free := hy
    rcases hy with hy | hy
    · exact cell_has hy
    · exact absurd rfl (S.nofree _ (PySem.mem_of_lookup hy))
  · exact Nat.le_of_lt (x.above y c (PySem.mem_of_lookup h))
  · have hi : i < vs.length := by
      unfold start at h2
      by_cases hi : i < vs.length
      · exact hi
      · rw [List.getElem?_append_right (by simpa using hi)] at h2
        rw [List.getElem?_replicate] at h2
        split at h2 <;> cases h2
    have ha : vs[i]? = some v := by
      unfold start at h2
      rw [List.getElem?_append_left (by simpa using hi), List.getElem?_map] at h2
      cases e : vs[i]? with
      | none => rw [e] at h2; cases h2
      | some a => rw [e] at h2; cases h2; rfl
    obtain ⟨u, hu, rv⟩ := r.get ha
    have hp : ps[i]? = some y := by
      rw [← S.pre, List.getElem?_take_of_lt (by omega)]; exact h1
    have ndP : ps.Nodup := by rw [← S.pre]; exact S.nd.sublist (List.take_sublist _ _)
    refine ⟨u, rv, ?_⟩
    rcases S.par y (List.mem_of_getElem? hp) with k | k
    · exact .inl ⟨k, bindL_get ndP hp hu k⟩
    · obtain ⟨c, e⟩ := cell_has (n := s.heap.objs.size + 1) k
      refine .inr ⟨.inl k, c, e, ?_⟩
      have q := x.cell y c e
      rw [bindC_get ndP hp hu (by show scope.names.lookup y ≠ _; rw [k]; decide)] at q
      exact q
  · exact e0.hok.fresh (Nat.le_of_lt (x.above y c (PySem.mem_of_lookup h)))
  · unfold start
    show _ = N.length
    rw [List.length_append, List.length_map, List.length_replicate]
    omega

theorem fn_of {CX : CXT} {P : Program} {w : World} {K : PySem.W.Frag} {mg : Str → Option Value} {base : Heap} {k : Nat} {f : Addr} {name qual : Str} {params : Arguments} {body : List Stmt} {scope : Scope} {dV kV doc pm cdv ct oc : Value} {an od : Option Addr}
    {osl : Array (Option Value)} {N ps : List Str} {sp : Sp} (lk : K.lookup f = some ⟨oc, od, .func (PySem.W.fnOf name qual params body scope dV kV doc pm an cdv ct), osl⟩) (hcd : PySem.W.codeIn K cdv qual = true) (S : FnScope N ps scope)
    (len : ∀ vs H Q E, sp vs H Q E → vs.length = ps.length)
    (hbody : ∀ (A : Around) (outer : List Env) (s : Shared) (H : Hp) (vs : List V) (Q : VK) (E : XK), Room k (A.deeper (envOfC qual scope s.heap.objs.size f cdv)) → sp vs H Q E →
      ∃ t, PSs (cxOf CX P w K mg base N qual scope f cdv A outer s H E) body t ∧ t { nx := fun _ H' => Q .non H', rt := Q } (start N vs) H) :
    FnOk P w K mg base CX (k + 1) f (PySem.W.fnOf name qual params body scope dV kV doc pm an cdv ct) ps sp := by
  refine ⟨len, fun A outer s H args us vs Q E hr e0 hb r hsp => ?_⟩
  have hl := len _ _ _ _ hsp
  have KX : K.In s.heap := e0.mod.kin.keeps fun b o e => (e0.bs b o e).1
  have lim : s.heap.NoLimit := e0.mod.nolimit.keeps fun b o e => (e0.bs b o e).1
  have hkind : ∀ y ∈ ps.zip us, scope.names.lookup y.1 = some .local ∨ (scope.names.lookup y.1 = some .cell ∧ ((cellsFrom (s.heap.objs.size + 1) scope.names []).lookup y.1).isSome = true) := fun ⟨n, v⟩ hy => by
    rcases S.par n (List.of_mem_zip hy).1 with q | q
    · exact .inl q
    · exact .inr ⟨q, PySem.W.cellsFrom_some _ _ _ (.inl q)⟩
  refine codeAny_call_function hr.depth (KX _ _ lk) rfl S.co S.gen rfl (PySem.W.codeRec_of KX hcd) (hb _ _ _ _ ?_)
  refine wpAny_newFunctionEnv_cells S.kind hkind fun env he s1 x => ?_
  subst he
  refine ⟨lim.keeps x.toInCall.keep, codeAny_func ?_⟩
  obtain ⟨t, ht, hq⟩ := hbody A outer s H vs Q E (hr.deeper _) hsp
  have I : Inv (cxOf CX P w K mg base N qual scope f cdv A outer s H E) [] (start N vs) H s1 := inv_start S hr.hd e0 hl r x
  refine wpAny_mono (ht [] s1 (start N vs) H _ I hq) (fun fl s' hs => ?_) fun e s' hs => hs
  have fin : ∀ {σ' : St} {H' : Hp} {v : V} {u : Value}, Inv (cxOf CX P w K mg base N qual scope f cdv A outer s H E) [] σ' H' s' → RelV v u → Q v H' → CE outer P w H s Q u s' :=
    fun {σ' H' v u} J rv q => ⟨v, H', J.os, J.bare, J.base, J.hok, rv, q⟩
  cases fl with
  | ret u =>
    obtain ⟨v, σ', H', J, rv, q⟩ := hs
    exact fin J rv q
  | next =>
    obtain ⟨σ', H', J, q⟩ := hs
    exact fin (v := V.non) (u := Value.none) J rfl q
  | brk =>
    obtain ⟨_, _, _, q⟩ := hs
    exact False.elim q
  | cont =>
    obtain ⟨_, _, _, q⟩ := hs
    exact False.elim q
end L2

namespace L2
open PySem PySem.Spec PyProof.Rows
section
variable {X : Cx} {x : Str} {p pos : Pos} {e : Expr} {es : List Expr} {t : TA} {id T : String} {r : List V → Hp → VK → Prop}

def tCB (r : List V → Hp → VK → Prop) (t : TA) : TE := fun σ H Q => t σ H fun vs H1 => r vs H1 Q
theorem pe_callB (hc : CallR X (.builtin id) r) (hg : Gl X x) (hm : X.mg x = none) (hv : bootBuiltins x = some (.builtin id)) (ha : PA X (e :: es) t) (hn : x ≠ "__name__" := by decide) (hdb : (x == ("__debug__" : Str)) = false := by decide)
    (he : starEach (e :: es) X.env = (false, eval e X.env) :: starEach es X.env := by rfl) (hpl : (backTo pos (starEach es X.env)).any (·.1) = false := by rfl) : PE X (.Call (.Name x p) (e :: es) [] pos) (tCB r t) := by
  intro pins s σ H Q I h
  refine wpAny_Call_Name_kw (ld_blt I hg hm hv ?_ hn hdb)
  exact PyProof.Rows.callWith_builtin1 (thn (ha pos pins s σ H _ I h) fun us s1 ⟨vs, H1, I1, r1, q1⟩ => hc pins s1 σ H1 vs us Q I1 r1 q1) he hpl
theorem pe_callTy (hc : CallR X (.type T) r) (hg : Gl X x) (hm : X.mg x = none) (hv : bootBuiltins x = some (.type T)) (ha : PA X (e :: es) t) (hn : x ≠ "__name__" := by decide) (hdb : (x == ("__debug__" : Str)) = false := by decide)
    (he : starEach (e :: es) X.env = (false, eval e X.env) :: starEach es X.env := by rfl) (hpl : (backTo pos (starEach es X.env)).any (·.1) = false := by rfl) : PE X (.Call (.Name x p) (e :: es) [] pos) (tCB r t) := by
  intro pins s σ H Q I h
  refine wpAny_Call_Name_kw (ld_blt I hg hm hv ?_ hn hdb)
  exact PyProof.Rows.callWith_type1 (thn (ha pos pins s σ H _ I h) fun us s1 ⟨vs, H1, I1, r1, q1⟩ => hc pins s1 σ H1 vs us Q I1 r1 q1) he hpl
end
end L2

namespace HT
open PySem PyProof.Rows



section
open PySem.SeqAt
open PySem.AutoSeq1 (wpAny_loadPart')
open PySem.MeetsSeq PySem.MeetsSeq2 PySem.MeetsSeq3

end

section
variable {prog : Program} {w : World} {A : Around} {E : Value → Shared → Prop} {s : Shared}


theorem cat_tup {t b : Addr} {vs ws : List Value} {Q : Value → Shared → Prop} (ht : IsTup s.heap t vs.toArray) (hb : IsTup s.heap b ws.toArray) (hv : vs ≠ [])
    (h1 : ws = [] → Q (.ref t) s) (h2 : ws ≠ [] → Q (.ref s.heap.objs.size) { s with heap := s.heap.push { cls := .type "tuple", data := .seq (vs ++ ws).toArray } })
    (hsz : vs.length + ws.length ≤ sizeLine) : wpAny (model prog w) A (binaryOp .Add (.ref t) (.ref b)) Q E s := by
  obtain ⟨⟨cls, dd, data, sl⟩, ho, hc, n, hd⟩ := id ht
  obtain ⟨⟨cls2, dd2, data2, sl2⟩, ho2, hc2, n2, hd2⟩ := id hb
  simp only at hc hd hc2 hd2
  subst hc hd hc2 hd2
  have e : vs.toArray ++ ws.toArray = (vs ++ ws).toArray := by simp
  by_cases hw : ws = []
  · exact concat_meets ⟨_, ho, rfl⟩ ⟨_, ho2, rfl⟩ noFill_tuple_add seq_tuple_add PySem.F.slot_tuple_add PySem.F.entry_tuple_add (PySem.F.args_tuple_add_2 _ _)
      (tuple_addW1 t b vs.toArray ws.toArray n n2 dd dd2 sl sl2 (by simpa using hv) (by simp [hw])) ⟨ho, ho2, h1 hw⟩
  · refine concat_meets ⟨_, ho, rfl⟩ ⟨_, ho2, rfl⟩ noFill_tuple_add seq_tuple_add PySem.F.slot_tuple_add PySem.F.entry_tuple_add (PySem.F.args_tuple_add_2 _ _)
      (tuple_addW2 t b vs.toArray ws.toArray n n2 dd dd2 sl sl2 (by simpa using hv) (by simpa using hw) (by rw [List.size_toArray, List.size_toArray]; exact hsz)) ⟨ho, ho2, ?_⟩
    rw [e]
    exact h2 hw

def sIx (n d : Nat) : Option Int → Nat
  | none => d
  | some v => if v < 0 then (v + (n : Int)).toNat else min v.toNat n
theorem sIx_none (n d : Nat) : sIx n d none = d := rfl
theorem sIx_nat (n d k : Nat) : sIx n d (some (k : Int)) = min k n := by
  show (if (k : Int) < 0 then ((k : Int) + (n : Int)).toNat else min (k : Int).toNat n) = min k n
  rw [if_neg (by omega), Int.toNat_natCast]
theorem sIx_le (n d : Nat) (hd : d ≤ n) (o : Option Int) : sIx n d o ≤ n := by
  cases o with
  | none => exact hd
  | some v =>
    show (if v < 0 then (v + (n : Int)).toNat else min v.toNat n) ≤ n
    by_cases hv : v < 0
    · rw [if_pos hv]; omega
    · rw [if_neg hv]; exact Nat.min_le_right _ _
theorem clip_eq (v : Int) (n d : Nat) : (if v < 0 then max (v + (n : Int)) 0 else min v (n : Int)) = ((sIx n d (some v) : Nat) : Int) := by
  show (if v < 0 then max (v + (n : Int)) 0 else min v (n : Int)) = (((if v < 0 then (v + (n : Int)).toNat else min v.toNat n) : Nat) : Int)
  by_cases hv : v < 0
  · simp only [if_pos hv]; omega
  · simp only [if_neg hv]; omega
theorem adjust_gen (lo hi : Option Int) (n : Nat) : Builtin.Slice.sliceAdjust lo hi 1 (n : Int) = (((sIx n 0 lo : Nat) : Int), ((sIx n n hi : Nat) : Int)) := by
  have h1 : ¬ ((1 : Int) < 0) := by omega
  unfold Builtin.Slice.sliceAdjust
  simp only [h1, if_false]
  refine Prod.ext ?_ ?_
  · cases lo with
    | none => rfl
    | some v => exact clip_eq v n 0
  · cases hi with
    | none => rfl
    | some v => exact clip_eq v n n
theorem places_gen (i j : Nat) : Builtin.Slice.slicePlaces (i : Int) (j : Int) 1 = j - i := by
  unfold Builtin.Slice.slicePlaces
  have h1 : (1 : Int) > 0 := by omega
  simp only [h1, if_true, Int.ediv_one]
  split <;> omega
theorem slicePart_ {v : Value} {o : Option Int} {Q : Option Int → Shared → Prop} (p : IsPart v o) (h : Q o s) : wpAny (model prog w) A (Builtin.Slice.slicePartIndex v) Q E s := by
  cases p with
  | none => exact slicePart_none h
  | int i t => exact slicePart_int h
theorem sliceApplied_gen {sl : Addr} {vl vu : Value} {lo hi : Option Int} {n : Nat} {Q : Int × Int × Nat → Shared → Prop} (hs : s.heap.IsSliceOf sl vl vu .none) (pl : IsPart vl lo) (pu : IsPart vu hi)
    (h : Q (((sIx n 0 lo : Nat) : Int), 1, sIx n n hi - sIx n 0 lo) s) : wpAny (model prog w) A (Builtin.Slice.sliceApplied (.ref sl) (pure (n : Int))) Q E s := by
  obtain ⟨os, hos, hcs, hds⟩ := id hs
  unfold Builtin.Slice.sliceApplied Builtin.Slice.sliceFields
  refine wpAny_bind (wpAny_bind (wpAny_field hos hds (x := vl) rfl (wpAny_bind (wpAny_field hos hds (x := vu) rfl (wpAny_bind (wpAny_field hos hds (x := .none) rfl (wpAny_pure ?_)))))))
  refine wpAny_bind (slicePart_none ?_)
  show wpAny _ _ (if ((1 : Int) == 0) = true then _ else _) _ _ s
  rw [if_neg (by decide)]
  refine wpAny_bind (slicePart_ pl (wpAny_bind (slicePart_ pu (wpAny_bind (wpAny_pure ?_)))))
  show wpAny _ _ (match Builtin.Slice.sliceAdjust lo hi 1 (n : Int) with | (lo, hi) => pure (lo, (1 : Int), Builtin.Slice.slicePlaces lo hi 1)) _ _ s
  rw [adjust_gen lo hi n]
  show wpAny _ _ (pure (((sIx n 0 lo : Nat) : Int), (1 : Int), Builtin.Slice.slicePlaces ((sIx n 0 lo : Nat) : Int) ((sIx n n hi : Nat) : Int) 1)) _ _ s
  rw [places_gen]
  exact wpAny_pure h
theorem pick_gen (xs : Array Value) (i k : Nat) : ((List.range k).filterMap fun (m : Nat) => xs[((i : Int) + (m : Int) * 1).toNat]?).toArray = ((xs.toList.drop i).take k).toArray := by
  have e : (fun (m : Nat) => xs[((i : Int) + (m : Int) * 1).toNat]?) = fun m => xs[i + m]? := by
    funext m
    have : ((i : Int) + (m : Int) * 1).toNat = i + m := by omega
    rw [this]
  rw [e]
  have := pick_run xs i k
  rw [List.filterMap_map] at this
  have e2 : ((fun x => xs[x]?) ∘ fun x => i + x) = fun m => xs[i + m]? := rfl
  rw [e2] at this
  rw [this]

theorem getItem_tuple_cut {t sl : Addr} {items : Array Value} {vl vu : Value} {lo hi : Option Int} {Q : Value → Shared → Prop} (ht : IsTup s.heap t items) (hs : s.heap.IsSliceOf sl vl vu .none) (pl : IsPart vl lo) (pu : IsPart vu hi)
    (hw : ¬ (sIx items.size 0 lo = 0 ∧ sIx items.size items.size hi = items.size))
    (h : Q (.ref s.heap.objs.size) { s with heap := s.heap.push { cls := .type "tuple", data := .seq ((items.toList.drop (sIx items.size 0 lo)).take (sIx items.size items.size hi - sIx items.size 0 lo)).toArray } })
    (hsz : items.size ≤ sizeLine) : wpAny (model prog w) A (getItem (.ref t) (.ref sl)) Q E s := by
  have htake : sizeOk (.seq ((items.toList.drop (sIx items.size 0 lo)).take (sIx items.size items.size hi - sIx items.size 0 lo)).toArray) := by
    show ((items.toList.drop (sIx items.size 0 lo)).take (sIx items.size items.size hi - sIx items.size 0 lo)).toArray.size ≤ sizeLine
    rw [List.size_toArray, List.length_take, List.length_drop, Array.length_toList]
    omega
  have hj : sIx items.size items.size hi ≤ items.size := sIx_le _ _ (Nat.le_refl _) hi
  obtain ⟨os, hos, hcs, hds⟩ := id hs
  have hTs : s.TypeIs (.ref sl) "slice" := ⟨os, hos, hcs⟩
  unfold getItem
  try with_reducible refine wpAny_holding ?_
  first | refine wpAny_bind (wpAny_pure ?_) | skip
  refine wpAny_bind (wpAny_sequenceKey ht.typeIs (by decide) ?_)
  refine wpAny_bind (wpAny_callSpecial?_slot (name := Str.ofString "__getitem__") ht.typeIs PyProof.Rows.slot_tuple_getitem
    (wpAny_call_entry PyProof.Rows.slot_tuple_getitem ht.typeIs entry_tuple_getitem ?_ (args_tuple_getitem _ _)))
  show wpAny _ _ (Builtin.Tuple.tupleItemsOf (.ref t) >>= _) _ _ s
  refine wpAny_bind (tupleItemsOf_ ht ?_)
  refine wpAny_bind (wpAny_typeOf hTs ?_)
  rw [if_pos (by decide)]
  refine wpAny_bind (sliceApplied_gen hs pl pu ?_)
  have hno : ¬ ((((sIx items.size 0 lo : Nat) : Int) == 0 && (1 : Int) == 1 && (sIx items.size items.size hi - sIx items.size 0 lo) == items.size) = true) := by
    intro q
    rw [Bool.and_eq_true, Bool.and_eq_true] at q
    have q1 : ((sIx items.size 0 lo : Nat) : Int) = 0 := eq_of_beq q.1.1
    have q2 : sIx items.size items.size hi - sIx items.size 0 lo = items.size := eq_of_beq q.2
    exact hw ⟨by omega, by omega⟩
  show wpAny _ _ (if (((sIx items.size 0 lo : Nat) : Int) == 0 && (1 : Int) == 1 && (sIx items.size items.size hi - sIx items.size 0 lo) == items.size) = true then _ else _) _ _ s
  rw [if_neg hno, pick_gen]
  first
    | exact wpAny_bind (m := Builtin.Tuple.tupleExact _) (wpAny_newObj_type (wpAny_pure ⟨_, rfl, wpAny_pure h⟩) htake)
    | exact wpAny_bind (m := Builtin.Tuple.tupleExact _) (wpAny_newObj_type (wpAny_bind (wpAny_pure (wpAny_pure ⟨_, rfl, wpAny_pure h⟩))) htake)
    | exact wpAny_bind (wpAny_bind (m := Builtin.Tuple.tupleExact _) (wpAny_newObj_type (wpAny_pure (wpAny_pure ⟨_, rfl, wpAny_pure h⟩)) htake))
    | exact wpAny_bind (wpAny_bind (m := Builtin.Tuple.tupleExact _) (wpAny_newObj_type (wpAny_pure ⟨_, rfl, wpAny_pure h⟩) htake))
end
end HT

namespace L2
open PySem PySem.Spec PyProof.Rows

abbrev TO := St → Hp → (Option Int → Hp → Prop) → Prop
def PO (X : Cx) (e : Option Expr) (t : TO) : Prop :=
  ∀ (pins : List (Addr × Obj)) (s : Shared) (σ : St) (H : Hp) (Q : Option Int → Hp → Prop), Inv X pins σ H s → t σ H Q →
    wpAny (model X.prog X.w) X.A (evalPart e X.env) (fun u s' => ∃ o H', Inv X pins σ H' s' ∧ IsPart u o ∧ Q o H') X.xe s
def tNoPart : TO := fun _ H Q => Q none H
def tPart (t : TE) : TO := fun σ H Q => t σ H fun x H1 => ∃ i, x = .int i ∧ Q (some i) H1

theorem intsAre_of {ns : List Int} : ∀ {us : List Value}, Vals (ns.map V.int) us → IntsAre us ns := by
  induction ns with
  | nil => intro us r; rw [List.map_nil] at r; cases r; exact .nil
  | cons n ns ih =>
    intro us r
    rw [List.map_cons] at r
    cases r with
    | cons r1 r2 =>
      obtain ⟨t, e⟩ := r1
      subst e
      exact .cons n t (ih r2)

section
variable {X : Cx} {e : Expr} {te : TE} {lo hi : Option Expr} {tl th : TO} {pos p2 : Pos}

theorem po_none : PO X none tNoPart := by
  intro pins s σ H Q I h
  rw [evalPart_none]
  exact wpAny_pure ⟨none, H, I, .none, h⟩
theorem po_some (h : PE X e te) : PO X (some e) (tPart te) := by
  intro pins s σ H Q I hw
  rw [evalPart_some]
  refine thn (h pins s σ H _ I hw) fun u s1 ⟨x, H1, I1, r1, q1⟩ => ?_
  obtain ⟨i, rfl, q⟩ := q1
  obtain ⟨t, rfl⟩ := r1
  exact ⟨some i, H1, I1, .int i t, q⟩

def SlR (X : Cx) (r : V → Option Int → Option Int → Hp → VK → Prop) : Prop :=
  ∀ (pins : List (Addr × Obj)) (s : Shared) (σ : St) (H : Hp) (x : V) (v vl vu : Value) (lo hi : Option Int) (sl : Addr) (Q : VK), Inv X pins σ H s → RelV x v → s.heap.IsSliceOf sl vl vu .none → IsPart vl lo → IsPart vu hi → r x lo hi H Q →
    ∃ T id, typeLookup (.type T) "__getitem__" = pure (some (.builtin id)) ∧ s.TypeIs v T ∧ wpAny (model X.prog X.w) X.A (getItem v (.ref sl)) (EP X pins σ Q) X.xe s
def tSl (r : V → Option Int → Option Int → Hp → VK → Prop) (te : TE) (tl th : TO) : TE := fun σ H Q => te σ H fun x H1 => tl σ H1 fun l H2 => th σ H2 fun u H3 => r x l u H3 Q
theorem pe_slice {r : V → Option Int → Option Int → Hp → VK → Prop} (hr : SlR X r) (he : PE X e te) (hl : PO X lo tl) (hu : PO X hi th) : PE X (.Subscript e (.Slice lo hi none p2) pos) (tSl r te tl th) := by
  intro pins s σ H Q I h
  refine Subscript_ (thn (he pins s σ H _ I h) fun v s1 ⟨x, H1, I1, r1, q1⟩ => ?_)
  refine wpAny_Slice (thn (hl pins s1 σ H1 _ I1 q1) fun vl s2 ⟨l, H2, I2, pl, q2⟩ => thn (hu pins s2 σ H2 _ I2 q2) fun vu s3 ⟨u, H3, I3, pu, q3⟩ => ?_)
  rw [evalPart_none]
  refine wpAny_pure ?_
  have I4 : Inv X pins σ H3 { s3 with heap := s3.heap.push { cls := .type "slice", data := .fields #[vl, vu, .none] } } := I3.kept (t' := s3.toks) fun b ob q => Heap.get?_push_of_some _ q
  obtain ⟨T, id, hT, ht, hg⟩ := hr pins { s3 with heap := s3.heap.push { cls := .type "slice", data := .fields #[vl, vu, .none] } } σ H3 x v vl vu l u s3.heap.objs.size Q I4 r1 (Heap.IsSliceOf.new ..) pl pu q3
  show wpAny (model X.prog X.w) X.A (subscriptTail e (.Slice lo hi none p2) v (.ref s3.heap.objs.size)) (EP X pins σ Q) X.xe { s3 with heap := s3.heap.push { cls := .type "slice", data := .fields #[vl, vu, .none] } }
  exact tail_any (ops := [.ref s3.heap.objs.size, v]) ht hT hg (by with_unfolding_all rfl)

def cutV (xs : List V) (lo hi : Option Int) : List V := (xs.drop (HT.sIx xs.length 0 lo)).take (HT.sIx xs.length xs.length hi - HT.sIx xs.length 0 lo)
theorem cutV_length (xs : List V) (lo hi : Option Int) : (cutV xs lo hi).length ≤ xs.length := by
  unfold cutV
  rw [List.length_take, List.length_drop]
  omega
def rSlT (K : PySem.W.Frag) : V → Option Int → Option Int → Hp → VK → Prop := fun x lo hi H Q => ∃ a xs, x = .ref a ∧ SqT K H a xs ∧
  ¬ (HT.sIx xs.length 0 lo = 0 ∧ HT.sIx xs.length xs.length hi = xs.length) ∧ ∀ p, H p = none → Q (.ref p) (upd H p (.tup (cutV xs lo hi)))
theorem sl_tup : SlR X (rSlT X.K) := by
  intro pins s σ H x v vl vu lo hi sl Q I rx hs pl pu h
  obtain ⟨a, xs, rfl, hx, hw, q⟩ := h
  cases rx
  obtain ⟨its, r, ht, hz⟩ := I.tuple hx
  have hlen : its.toArray.size = xs.length := by rw [List.size_toArray]; exact r.length.symm
  refine ⟨"tuple", _, PyProof.Rows.slot_tuple_getitem.lookup, ht.typeIs, ?_⟩
  refine HT.getItem_tuple_cut ht hs pl pu (by rw [hlen]; exact hw) ?_ (by rw [hlen]; exact hz)
  rw [hlen]
  refine ⟨.ref s.heap.objs.size, _, I.laid (t' := s.toks) (o := .tup (cutV xs lo hi)) (fun b ob q => Heap.get?_push_of_some _ q) (Nat.le_refl _) ?_, rfl, q _ (I.hok.fresh (Nat.le_refl _))⟩
  exact ⟨Nat.le_trans (cutV_length xs lo hi) hz, _, (r.drop (HT.sIx xs.length 0 lo)).take (HT.sIx xs.length xs.length hi - HT.sIx xs.length 0 lo), IsTup.new _ _⟩

def rCatT (K : PySem.W.Frag) : R2 := fun x y H Q => ∃ a b xs ys, x = .ref a ∧ y = .ref b ∧ SqT K H a xs ∧ SqT K H b ys ∧ xs ≠ [] ∧ xs.length + ys.length ≤ sizeLine ∧
  (ys = [] → Q (.ref a) H) ∧ (ys ≠ [] → ∀ p, H p = none → Q (.ref p) (upd H p (.tup (xs ++ ys))))
theorem Vals.nil_iff {xs : List V} {us : List Value} (r : Vals xs us) : us = [] ↔ xs = [] := by
  cases r with
  | nil => simp
  | cons _ _ => simp
theorem op_catT : OpR X (binaryOp .Add) (rCatT X.K) := by
  intro pins s σ H x y v u Q I rx ry h
  obtain ⟨a, b, xs, ys, rfl, rfl, ha, hb, hx, hz, q1, q2⟩ := h
  cases rx
  cases ry
  obtain ⟨its, r1, p1, _⟩ := I.tuple ha
  obtain ⟨its2, r2, p2, _⟩ := I.tuple hb
  refine HT.cat_tup p1 p2 (fun z => hx (r1.nil_iff.mp z)) (fun z => ⟨.ref a, H, I, rfl, q1 (r2.nil_iff.mp z)⟩) (fun z => ?_) (by rw [← r1.length, ← r2.length]; exact hz)
  refine ⟨.ref s.heap.objs.size, _, I.laid (t' := s.toks) (o := .tup (xs ++ ys)) (fun b ob q => Heap.get?_push_of_some _ q) (Nat.le_refl _) ?_, rfl, q2 (fun w => z (r2.nil_iff.mpr w)) _ (I.hok.fresh (Nat.le_refl _))⟩
  exact ⟨by rw [List.length_append]; exact hz, _, r1.append r2, IsTup.new _ _⟩
end
end L2

namespace L2
open PySem PySem.Spec PyProof.Rows

def ixN (n : Nat) (i : Int) : Option Nat := if 0 ≤ i then (if i < n then some i.toNat else none) else if -(n : Int) ≤ i then some (i + n).toNat else none
def atI {α : Type} (xs : List α) (i : Int) : Option α := (ixN xs.length i).bind fun j => xs[j]?
theorem ixN_seq {n : Nat} {i : Int} {j : Nat} (h : ixN n i = some j) : seqIndex? i n = some j ∧ j < n ∧ -(n : Int) ≤ i ∧ i < n := by
  unfold ixN at h
  by_cases h0 : 0 ≤ i
  · rw [if_pos h0] at h
    by_cases h1 : i < n
    · rw [if_pos h1] at h
      have e : i.toNat = j := Option.some.inj h
      exact ⟨by rw [seqIndex_of h0 h1, e], by omega, by omega, h1⟩
    · rw [if_neg h1] at h; cases h
  · rw [if_neg h0] at h
    by_cases h1 : -(n : Int) ≤ i
    · rw [if_pos h1] at h
      have e : (i + n).toNat = j := Option.some.inj h
      exact ⟨by rw [seqIndex_neg (by omega) h1, e], by omega, h1, by omega⟩
    · rw [if_neg h1] at h; cases h
theorem atI_get {α : Type} {xs : List α} {i : Int} {v : α} (h : atI xs i = some v) : ∃ j, seqIndex? i xs.length = some j ∧ xs[j]? = some v ∧ j < xs.length ∧ -(xs.length : Int) ≤ i ∧ i < xs.length := by
  unfold atI at h
  cases e : ixN xs.length i with
  | none => rw [e] at h; cases h
  | some j =>
    rw [e] at h
    obtain ⟨h1, h2, h3, h4⟩ := ixN_seq e
    exact ⟨j, h1, h, h2, h3, h4⟩
theorem atI_nat {α : Type} {xs : List α} {j : Nat} {v : α} (h : xs[j]? = some v) : atI xs (j : Int) = some v := by
  have hj : j < xs.length := (List.getElem?_eq_some_iff.mp h).1
  have e : ixN xs.length (j : Int) = some j := by
    unfold ixN
    rw [if_pos (by omega), if_pos (by omega)]; simp
  unfold atI; rw [e]; exact h

def PlainIx (b : Expr) : Prop := ∀ o i, subscripted b false o i = operate [o, i] (getItem o i)
def IxR (X : Cx) (r : R2) : Prop :=
  ∀ (value slice : Expr) (pins : List (Addr × Obj)) (s : Shared) (σ : St) (H : Hp) (x y : V) (v u : Value) (Q : VK), Inv X pins σ H s → RelV x v → RelV y u → r x y H Q →
    subscripted slice false v u = operate [v, u] (getItem v u) → wpAny (model X.prog X.w) X.A (subscriptTail value slice v u) (EP X pins σ Q) X.xe s
def MtR (X : Cx) (id : String) (r : V → List V → Hp → VK → Prop) : Prop :=
  ∀ (pins : List (Addr × Obj)) (s : Shared) (σ : St) (H : Hp) (x : V) (xs : List V) (v : Value) (us : List Value) (Q : VK), Inv X pins σ H s → RelV x v → Vals xs us → r x xs H Q →
    wpAny (model X.prog X.w) X.A (call (.builtin id) (v :: us)) (EP X pins σ Q) X.xe s
section
variable {X : Cx} {a b : Expr} {ta tb : TE} {pos : Pos}
theorem pe_ix {r : R2} (hr : IxR X r) (ha : PE X a ta) (hb : PE X b tb) (hs : PlainIx b) : PE X (.Subscript a b pos) (tOp r ta tb) := by
  intro pins s σ H Q I h
  exact Subscript_ (binT ha hb I h fun v u s2 x y H2 I2 rx ry q => hr a b pins s2 σ H2 x y v u Q I2 rx ry q (hs _ _))

def rIxL (K : PySem.W.Frag) : R2 := fun x y H Q => ∃ p xs i v, x = .ref p ∧ y = .int i ∧ SqL K H p xs ∧ atI xs i = some v ∧ Q v H
def rIxT (K : PySem.W.Frag) : R2 := fun x y H Q => ∃ p xs i v, x = .ref p ∧ y = .int i ∧ SqT K H p xs ∧ atI xs i = some v ∧ Q v H
theorem ix_list : IxR X (rIxL X.K) := by
  intro value slice pins s σ H x y v u Q I rx ry h hs
  obtain ⟨p, xs, i, z, rfl, rfl, hq, he, q⟩ := h
  cases rx
  obtain ⟨t, rfl⟩ := ry
  obtain ⟨its, r, pl, hz⟩ := I.list hq
  obtain ⟨j, h1, h2, h3, h4, h5⟩ := atI_get he
  obtain ⟨w, ew, rw'⟩ := r.get h2
  have hl := r.length
  have hn := line63
  have fin : EP X pins σ Q w s := ⟨z, H, I, rw', q⟩
  by_cases h0 : 0 ≤ i
  · have hj : i.toNat = j := by
      rw [seqIndex_of h0 h5] at h1
      exact Option.some.inj h1
    exact item_listR pl.isList h0 (by omega) (by rw [hj]; simpa using ew) fin hs
  · have hj : (i + (its.toArray.size : Int)).toNat = j := by
      rw [seqIndex_neg (by omega) h4] at h1
      rw [List.size_toArray, ← hl]
      exact Option.some.inj h1
    exact subscriptTail_builtinR (x := w) pl.isList.typeIs slot_list_getitem.lookup
      (wpAny_getItem_list_neg (Q := fun r s' => r = w ∧ EP X pins σ Q r s') pl.isList (by omega) (by rw [List.size_toArray] <;> omega) (by omega) (by rw [hj]; simpa using ew) ⟨rfl, fin⟩) hs
theorem ix_tup : IxR X (rIxT X.K) := by
  intro value slice pins s σ H x y v u Q I rx ry h hs
  obtain ⟨p, xs, i, z, rfl, rfl, hq, he, q⟩ := h
  cases rx
  obtain ⟨t, rfl⟩ := ry
  obtain ⟨its, r, pl, hz⟩ := I.tuple hq
  obtain ⟨j, h1, h2, h3, h4, h5⟩ := atI_get he
  obtain ⟨w, ew, rw'⟩ := r.get h2
  have hl := r.length
  have hn := line63
  have fin : EP X pins σ Q w s := ⟨z, H, I, rw', q⟩
  exact subscriptTail_builtinR (x := w) pl.typeIs slot_tuple_getitem.lookup
    (getItem_tuple (j := j) (Q := fun r s' => r = w ∧ EP X pins σ Q r s') pl (by omega) (by omega) (by rw [List.size_toArray, ← hl]; exact h1) (by simpa using ew) ⟨rfl, fin⟩) hs

theorem mapSeq_set (its : List Value) (n j : Nat) (u : Value) : Obj.mapSeq (·.setIfInBounds j u) { cls := .type "list", data := .seq its.toArray n } = { cls := .type "list", data := .seq (its.set j u).toArray n } := by
  simp [Obj.mapSeq]
theorem Inv.lst {pins : List (Addr × Obj)} {σ : St} {H : Hp} {s : Shared} {p : Addr} {xs : List V} (I : Inv X pins σ H s) (h : H p = some (.lst xs)) :
    ∃ (its : List Value) (n : Nat), Vals xs its ∧ s.heap.get? p = some { cls := .type "list", data := .seq its.toArray n } ∧ xs.length ≤ sizeLine := by
  obtain ⟨z, its, n, r, e⟩ := I.hok p _ h
  exact ⟨its, n, r, e, z⟩
theorem Inv.lstUpd {pins : List (Addr × Obj)} {σ : St} {H : Hp} {s : Shared} {p : Addr} {xs ys : List V} {its its' : List Value} {n n' : Nat} {f : Obj → Obj} (I : Inv X pins σ H s) (h : H p = some (.lst xs))
    (ho : s.heap.get? p = some { cls := .type "list", data := .seq its.toArray n }) (hf : f { cls := .type "list", data := .seq its.toArray n } = { cls := .type "list", data := .seq its'.toArray n' }) (r : Vals ys its') (hz : ys.length ≤ sizeLine) (t : Nat) :
    Inv X pins σ (upd H p (.lst ys)) { s with heap := s.heap.update p f, toks := t } := by
  have e : (s.heap.update p f).get? p = some { cls := .type "list", data := .seq its'.toArray n' } := by
    rw [Heap.get?_update_self f ho (by rw [hf] <;> rfl), hf]
  refine I.write (x := p) (e := p) (by rw [h]; trivial) (.inl rfl) (fun b u hb q => (Heap.get?_update_other _ _ (Ne.symm hb)).trans q) ⟨_, e⟩ ?_
  exact ⟨hz, its', n', r, e⟩
def rSetL : V → V → V → Hp → (Hp → Prop) → Prop := fun o i v H Q => ∃ p xs k j, o = .ref p ∧ i = .int k ∧ H p = some (.lst xs) ∧ ixN xs.length k = some j ∧ Q (upd H p (.lst (xs.set j v)))
theorem set_list : PSet X rSetL := by
  intro pins s σ H o i v ov iv u Q I ro ri rv h
  obtain ⟨p, xs, k, j, rfl, rfl, hp, hj, q⟩ := h
  cases ro
  obtain ⟨t, rfl⟩ := ri
  obtain ⟨its, n, r, ho, hz⟩ := I.lst hp
  obtain ⟨h1, h2, h3, h4⟩ := ixN_seq hj
  have hl := r.length
  have hn := line63
  have I' : Inv X pins σ (upd H p (.lst (xs.set j v))) { s with heap := s.heap.update p (Obj.mapSeq (·.setIfInBounds j u)) } :=
    I.lstUpd hp ho (mapSeq_set its n j u) (r.set rv j) (by rw [List.length_set]; exact hz) s.toks
  by_cases h0 : 0 ≤ k
  · have hk : k.toNat = j := by
      rw [seqIndex_of h0 h4] at h1
      exact Option.some.inj h1
    exact PySem.W.ki_setAt ho h0 (by omega) (by rw [List.size_toArray, ← hl]; exact h4) (by rw [hk]; exact ⟨_, I', q⟩)
  · have hk : (k + (its.toArray.size : Int)).toNat = j := by
      rw [seqIndex_neg (by omega) h3] at h1
      rw [List.size_toArray, ← hl]
      exact Option.some.inj h1
    exact PySem.W.ki_setBack ho (by omega) (by rw [List.size_toArray, ← hl]; exact h3) (by omega) (by rw [hk]; exact ⟨_, I', q⟩)

theorem slice_bounds (lo hi : Option Int) (n : Nat) : (sliceBounds lo hi none n).1 = ((HT.sIx n 0 lo : Nat) : Int) ∧ (sliceBounds lo hi none n).2.1 = ((HT.sIx n n hi : Nat) : Int) ∧ (sliceBounds lo hi none n).2.2 = 1 := by
  refine ⟨?_, ?_, rfl⟩
  · cases lo with
    | none => simp [sliceBounds, HT.sIx]
    | some i =>
      simp only [sliceBounds, HT.sIx, Option.getD_none, show (1 : Int) > 0 by decide, if_true]
      by_cases h : i < 0
      · simp only [h, if_true] <;> omega
      · simp only [h, if_false] <;> omega
  · cases hi with
    | none => simp [sliceBounds, HT.sIx]
    | some i =>
      simp only [sliceBounds, HT.sIx, Option.getD_none, show (1 : Int) > 0 by decide, if_true]
      by_cases h : i < 0
      · simp only [h, if_true] <;> omega
      · simp only [h, if_false] <;> omega
theorem slicePick_cut (its : List Value) (lo hi : Option Int) : slicePick its.toArray lo hi none = ((its.drop (HT.sIx its.length 0 lo)).take (HT.sIx its.length its.length hi - HT.sIx its.length 0 lo)).toArray := by
  obtain ⟨h1, h2, h3⟩ := slice_bounds lo hi its.toArray.size
  unfold slicePick
  rw [h1, h2, h3]
  simp only [sliceRange_one, pick_run, List.size_toArray] <;> rfl
def rSlL (K : PySem.W.Frag) : V → Option Int → Option Int → Hp → VK → Prop := fun x lo hi H Q => ∃ a xs, x = .ref a ∧ SqL K H a xs ∧ ∀ p, H p = none → Q (.ref p) (upd H p (.lst (cutV xs lo hi)))
theorem sl_list : SlR X (rSlL X.K) := by
  intro pins s σ H x v vl vu lo hi sl Q I rx hs pl pu h
  obtain ⟨a, xs, rfl, hx, q⟩ := h
  cases rx
  obtain ⟨its, r, ht, hz⟩ := I.list hx
  have hlen := r.length
  refine ⟨"list", _, slot_list_getitem.lookup, ht.isList.typeIs, ?_⟩
  refine wpAny_getItem_list_slice ht.isList hs pl pu .none (by simp) ?_ (by rw [List.size_toArray] <;> omega)
  rw [slicePick_cut, ← hlen]
  refine ⟨.ref s.heap.objs.size, _, I.laid (t' := s.toks) (o := .lst (cutV xs lo hi)) (fun b ob q => Heap.get?_push_of_some _ q) (Nat.le_refl _) ?_, rfl, q _ (I.hok.fresh (Nat.le_refl _))⟩
  exact ⟨Nat.le_trans (cutV_length xs lo hi) hz, _, 0, (r.drop (HT.sIx xs.length 0 lo)).take (HT.sIx xs.length xs.length hi - HT.sIx xs.length 0 lo), Heap.get?_push_size _ rfl⟩

def flatV : V → Bool
  | .non => true
  | .bl _ => true
  | .int _ => true
  | .str _ => true
  | _ => false
def eqV : V → V → Bool
  | .non, .non => true
  | .bl a, .bl b => a == b
  | .bl a, .int b => (if a then 1 else 0) == b
  | .int a, .bl b => a == (if b then 1 else 0)
  | .int a, .int b => a == b
  | .str a, .str b => a == b
  | _, _ => false
theorem eqAt_V {A : Around} {s : Shared} {y x : V} {u v : Value} (ry : RelV y u) (rx : RelV x v) (fy : flatV y = true) (fx : flatV x = true) : SeqAt.EqAt A s u v (eqV y x) := by
  cases y with
  | non =>
    cases ry
    cases x with
    | non => cases rx; exact SeqAt.EqAt.same _
    | bl b => cases rx; exact SeqAt.EqAt.none_bool b
    | int b => obtain ⟨t, rfl⟩ := rx; exact SeqAt.EqAt.none_int b t
    | str b => obtain ⟨t, rfl⟩ := rx; exact SeqAt.EqAt.none_str b t
    | _ => exact absurd (show false = true from fx) Bool.false_ne_true
  | bl a =>
    cases ry
    cases x with
    | non => cases rx; exact SeqAt.EqAt.bool_none a
    | bl b => cases rx; exact SeqAt.EqAt.bool_bool a b
    | int b => obtain ⟨t, rfl⟩ := rx; exact SeqAt.EqAt.bool_int a b t
    | str b => obtain ⟨t, rfl⟩ := rx; exact SeqAt.EqAt.bool_str a b t
    | _ => exact absurd (show false = true from fx) Bool.false_ne_true
  | int a =>
    obtain ⟨t', rfl⟩ := ry
    cases x with
    | non => cases rx; exact SeqAt.EqAt.int_none a t'
    | bl b => cases rx; exact SeqAt.EqAt.int_bool a t' b
    | int b => obtain ⟨t, rfl⟩ := rx; exact SeqAt.EqAt.int_int a t' b t
    | str b => obtain ⟨t, rfl⟩ := rx; exact SeqAt.EqAt.int_str a t' b t
    | _ => exact absurd (show false = true from fx) Bool.false_ne_true
  | str a =>
    obtain ⟨t', rfl⟩ := ry
    cases x with
    | non => cases rx; exact SeqAt.EqAt.str_none a t'
    | bl b => cases rx; exact SeqAt.EqAt.str_bool a t' b
    | int b => obtain ⟨t, rfl⟩ := rx; exact SeqAt.EqAt.str_int a t' b t
    | str b => obtain ⟨t, rfl⟩ := rx; exact SeqAt.EqAt.str_str a t' b t
    | _ => exact absurd (show false = true from fx) Bool.false_ne_true
  | _ => exact absurd (show false = true from fy) Bool.false_ne_true

theorem call_len_seq : CallR X (.builtin "len") (fun xs H Q => ∃ p ys, xs = [.ref p] ∧ (SqL X.K H p ys ∨ SqT X.K H p ys) ∧ Q (.int ys.length) H) := by
  intro pins s σ H xs us Q I r h
  obtain ⟨p, ys, rfl, hq, q⟩ := h
  obtain ⟨u, rfl, rx⟩ := vals1 r
  cases rx
  have hn := line63
  rcases hq with hq | hq
  · obtain ⟨its, r', pl, hz⟩ := I.list hq
    have hlen := r'.length
    exact Calls.call_len_list pl.isList (by simp only [List.size_toArray] <;> omega) ⟨.int ys.length, H, I.tok _, ⟨s.toks + 1, by rw [List.size_toArray, hlen]⟩, q⟩
  · obtain ⟨its, r', pl, hz⟩ := I.tuple hq
    have hlen := r'.length
    exact len_tuple pl (by simp only [List.size_toArray] <;> omega) ⟨.int ys.length, H, I.tok _, ⟨s.toks + 1, by rw [List.size_toArray, hlen]⟩, q⟩
theorem call_list_of : CallR X (.type "list") (fun xs H Q => ∃ p ys, xs = [.ref p] ∧ (SqL X.K H p ys ∨ SqT X.K H p ys) ∧ ∀ l, H l = none → Q (.ref l) (upd H l (.lst ys))) := by
  intro pins s σ H xs us Q I r h
  obtain ⟨p, ys, rfl, hq, q⟩ := h
  obtain ⟨u, rfl, rx⟩ := vals1 r
  cases rx
  have fin : ∀ (its : List Value), Vals ys its → ys.length ≤ sizeLine → ∀ (h' : Heap) (c' : Nat), (∀ b o', s.heap.get? b = some o' → h'.get? b = some o') →
      h'.get? s.heap.objs.size = some { cls := .type "list", dict := none, data := .seq its.toArray c', slots := #[] } → EP X pins σ Q (.ref s.heap.objs.size) { s with heap := h' } := fun its r' hz h' c' kp e =>
    ⟨.ref s.heap.objs.size, _, I.laid (t' := s.toks) kp (Nat.le_refl _) (show ObjOk X.prog X.w _ h' _ (.lst ys) from ⟨hz, its, c', r', e⟩), rfl, q _ (I.hok.fresh (Nat.le_refl _))⟩
  rcases hq with hq | hq
  · obtain ⟨its, r', pl, hz⟩ := I.list hq
    have hlen := r'.length
    obtain ⟨o, ho, hc, n, hd⟩ := pl.isList
    exact call_list_seq p (.inl rfl) ho hc hd (fun h' c' kp e => fin its r' hz h' c' kp e) (by simp only [List.size_toArray] <;> omega)
  · obtain ⟨its, r', pl, hz⟩ := I.tuple hq
    have hlen := r'.length
    obtain ⟨o, ho, hc, n, hd⟩ := pl
    exact call_list_seq p (.inr rfl) ho hc hd (fun h' c' kp e => fin its r' hz h' c' kp e) (by simp only [List.size_toArray] <;> omega)
theorem call_tuple_of : CallR X (.type "tuple") (fun xs H Q => ∃ p ys, xs = [.ref p] ∧ ((SqL X.K H p ys ∧ ∀ l, H l = none → Q (.ref l) (upd H l (.tup ys))) ∨ (SqT X.K H p ys ∧ Q (.ref p) H))) := by
  intro pins s σ H xs us Q I r h
  obtain ⟨p, ys, rfl, h⟩ := h
  obtain ⟨u, rfl, rx⟩ := vals1 r
  cases rx
  rcases h with ⟨hq, q⟩ | ⟨hq, q⟩
  · obtain ⟨its, r', pl, hz⟩ := I.list hq
    have hlen := r'.length
    refine call_tuple_list pl.isList (fun h' kp => ?_) (by simp only [List.size_toArray] <;> omega)
    have I1 : Inv X pins σ H { s with heap := h' } := I.kept (t' := s.toks) kp
    have I2 : Inv X pins σ (upd H h'.objs.size (.tup ys)) { s with heap := h'.push { cls := .type "tuple", data := .seq its.toArray } } :=
      I1.laid (t' := s.toks) (fun b o e => Heap.get?_push_of_some _ e) (Nat.le_refl _) (show ObjOk X.prog X.w _ _ _ (.tup ys) from ⟨hz, its, r', IsTup.new _ _⟩)
    exact ⟨.ref h'.objs.size, _, I2, rfl, q _ (I1.hok.fresh (Nat.le_refl _))⟩
  · obtain ⟨its, r', pl, hz⟩ := I.tuple hq
    exact call_tuple_same pl ⟨.ref p, H, I, rfl, q⟩

def tyV (K : PySem.W.Frag) (T : String) (x : V) (H : Hp) : Prop := match x with
  | .str _ => T = "str"
  | .int _ => T = "int"
  | .ref p => (T = "list" ∧ ∃ xs, SqL K H p xs) ∨ (T = "tuple" ∧ ∃ o, K.lookup p = some o ∧ o.cls = .type "tuple" ∧ o.dict = none) ∨
      (T = "dict" ∧ ((∃ kvs, H p = some (.dK kvs)) ∨ ∃ kvs, H p = some (.dT kvs))) ∨ (T = "set" ∧ ∃ S n, H p = some (.set S n))
  | _ => False
theorem tyV_is {pins : List (Addr × Obj)} {σ : St} {H : Hp} {s : Shared} {T : String} {x : V} {v : Value} (I : Inv X pins σ H s) (r : RelV x v) (ty : tyV X.K T x H) :
    s.TypeIs v T ∧ ∀ a, v = .ref a → ∃ ob, s.heap.get? a = some ob ∧ ob.dict = none := by
  cases x with
  | str z =>
    obtain ⟨t, rfl⟩ := r
    cases (show T = "str" from ty)
    exact ⟨typeIs_str s z t, fun _ e => nomatch e⟩
  | int i =>
    obtain ⟨t, rfl⟩ := r
    cases (show T = "int" from ty)
    exact ⟨typeIs_int s i t, fun _ e => nomatch e⟩
  | ref p =>
    cases r
    rcases ty with ⟨rfl, xs, hq⟩ | ⟨rfl, o, hk, hc, hd⟩ | ⟨rfl, hk⟩ | ⟨rfl, S, n, hk⟩
    · obtain ⟨its, _, pl, _⟩ := I.list hq
      refine ⟨pl.isList.typeIs, fun a e => ?_⟩
      cases e
      obtain ⟨o, n, e, c, hd, _⟩ := pl
      exact ⟨o, e, hd⟩
    · refine ⟨⟨o, I.kIn p o hk, hc⟩, fun a e => ?_⟩
      cases e
      exact ⟨o, I.kIn _ o hk, hd⟩
    · have z : ∃ o, s.heap.get? p = some o ∧ o.ExactDict := by
        rcases hk with ⟨kvs, hk⟩ | ⟨kvs, hk⟩
        · obtain ⟨_, _, _, _, o, _, _, e, ex, _⟩ := I.hok p _ hk
          exact ⟨o, e, ex⟩
        · obtain ⟨_, _, _, _, o, _, _, e, ex, _⟩ := I.hok p _ hk
          exact ⟨o, e, ex⟩
      obtain ⟨o, e, ex⟩ := z
      refine ⟨⟨o, e, ex.1⟩, fun a e2 => ?_⟩
      cases e2
      exact ⟨o, e, ex.2.1⟩
    · obtain ⟨o, _, _, _, e, ex, _⟩ := I.hok p _ hk
      refine ⟨⟨o, e, ex.1⟩, fun a e2 => ?_⟩
      cases e2
      exact ⟨o, e, ex.2.1⟩
  | _ => exact False.elim ty
def tBM (K : PySem.W.Frag) (T : String) (r : V → List V → Hp → VK → Prop) (to : TE) (t : TA) : TE := fun σ H Q => to σ H fun x H1 => tyV K T x H1 ∧ t σ H1 fun xs H2 => r x xs H2 Q
variable {o e : Expr} {es : List Expr} {to : TE} {t : TA} {name : Str} {apos cpos : Pos} {T id : String} {r : V → List V → Hp → VK → Prop}
theorem pe_bm (pa : PlainAttrs T) (slot : Slot T name id) (hty : typeOf (.builtin id) = pure (.type "method_descriptor")) (hm : MtR X id r) (ho : PE X o to) (ha : PA X (e :: es) t)
    (hbase : attributeBase o name X.env (eval o X.env) = eval o X.env := by rfl)
    (hfew : ((backTo cpos (starEach (e :: es) X.env)).all (fun x => !x.1) && (backToKw cpos (keywordEach [] X.env)).all (fun x => x.1.isSome)
      && decide ((e :: es).length + ([] : List Keyword).length + (if ([] : List Keyword).isEmpty then 0 else 1) < 30)) = true := by rfl)
    (hline : (apos.endLine == cpos.line) = true := by rfl) (hs : starEach (e :: es) X.env = (false, eval e X.env) :: starEach es X.env := by rfl) (hplain : (backTo cpos (starEach es X.env)).any (·.1) = false := by rfl) :
    PE X (.Call (.Attribute o name apos) (e :: es) [] cpos) (tBM X.K T r to t) := by
  intro pins s σ H Q I h
  refine wpAny_Call_method_late hbase hfew hline rfl (thn (ho pins s σ H _ I h) fun v s1 ⟨x, H1, I1, r1, ty, q1⟩ => ?_)
  obtain ⟨h1, h2⟩ := tyV_is I1 r1 ty
  refine ⟨T, id, pa, slot, hty, h1, h2, ?_⟩
  have hA := ha cpos pins s1 σ H1 _ I1 q1
  rw [hs] at hA ⊢
  refine Calls.callWith_builtin (by show (false || (backTo cpos (starEach es X.env)).any (·.1)) = false; rw [hplain] <;> rfl) (Calls.evalArgs_plain ?_)
  exact thn hA fun us s2 ⟨vs, H2, I2, r2, q2⟩ => hm pins s2 σ H2 x vs v us Q I2 r1 r2 q2
end
end L2

namespace L2
open PySem PySem.Spec PyProof.Rows

def MtM (X : Cx) (id : String) (r : V → List V → Hp → VK → Prop) : Prop :=
  ∀ (pins : List (Addr × Obj)) (s : Shared) (σ : St) (H : Hp) (x : V) (xs : List V) (v : Value) (us : List Value) (Q : VK), Inv X pins σ H s → RelV x v → Vals xs us → r x xs H Q →
    wpAny (model X.prog X.w) X.A (call (.builtin id) (v :: us)) (EP X pins σ Q) X.xe s

theorem Vals.one : ∀ {x : V} {us : List Value}, Vals [x] us → ∃ u, us = [u] ∧ RelV x u
  | _, _, .cons r .nil => ⟨_, rfl, r⟩
theorem Vals.zero : ∀ {us : List Value}, Vals [] us → us = []
  | _, .nil => rfl
theorem Vals.eraseIdx : ∀ {xs : List V} {us : List Value} (i : Nat), Vals xs us → Vals (xs.eraseIdx i) (us.eraseIdx i)
  | _, _, _, .nil => .nil
  | _, _, 0, .cons _ t => t
  | _, _, i + 1, .cons r t => .cons r (Vals.eraseIdx i t)
theorem Vals.reverse {xs : List V} {us : List Value} (h : Vals xs us) : Vals xs.reverse us.reverse := by
  induction h with
  | nil => exact .nil
  | cons r t ih => rw [List.reverse_cons, List.reverse_cons]; exact Vals.append ih (.cons r .nil)
theorem Vals.rep {xs : List V} {us : List Value} (h : Vals xs us) : ∀ k : Nat, Vals (List.replicate k xs).flatten (List.replicate k us).flatten
  | 0 => .nil
  | k + 1 => by
    rw [List.replicate_succ, List.replicate_succ, List.flatten_cons, List.flatten_cons]
    exact Vals.append h (Vals.rep h k)
theorem len_erase {α : Type} : ∀ (l : List α) (i : Nat), (l.eraseIdx i).length ≤ l.length
  | [], _ => Nat.le_refl _
  | _ :: _, 0 => Nat.le_succ _
  | _ :: r, i + 1 => Nat.succ_le_succ (len_erase r i)
theorem foldl_rep (its : List Value) : ∀ (k : Nat) (acc : List Value),
    List.foldl (fun x1 x2 => x1 ++ x2) acc.toArray (List.replicate k its.toArray) = (acc ++ (List.replicate k its).flatten).toArray
  | 0, acc => by simp
  | k + 1, acc => by
    have e : acc.toArray ++ its.toArray = (acc ++ its).toArray := by simp
    have e2 : (acc ++ its) ++ (List.replicate k its).flatten = acc ++ (List.replicate (k + 1) its).flatten := by
      rw [List.replicate_succ, List.flatten_cons, List.append_assoc]
    rw [← e2, ← foldl_rep its k (acc ++ its), ← e, List.replicate_succ, List.foldl_cons]

section
variable {X : Cx} {pins : List (Addr × Obj)} {σ : St} {H : Hp} {s : Shared} {l b : Addr} {xs ys zs : List V}

theorem Inv.lset {its its' : List Value} {n : Nat} {f : Array Value → Array Value} {t' : Nat} (I : Inv X pins σ H s) (hH : H l = some (.lst xs))
    (e : s.heap.get? l = some { cls := .type "list", data := .seq its.toArray n }) (hf : f its.toArray = its'.toArray) (hv : Vals ys its') (hz : ys.length ≤ sizeLine) :
    Inv X pins σ (upd H l (.lst ys)) { s with heap := s.heap.update l (Obj.mapSeq f), toks := t' } := by
  have q := PySem.IsL.update e f
  rw [hf] at q
  refine I.write (x := l) (e := l) (by rw [hH]; exact trivial) (.inl rfl) (fun b' u hb hu => (Heap.get?_update_other s.heap (Obj.mapSeq f) (Ne.symm hb)).trans hu) ⟨_, q⟩ ?_
  exact ⟨hz, its', _, hv, q⟩
theorem Inv.lnew {its : List Value} {t' : Nat} (I : Inv X pins σ H s) (hv : Vals ys its) (hz : ys.length ≤ sizeLine) :
    Inv X pins σ (upd H s.heap.objs.size (.lst ys)) { s with heap := s.heap.push { cls := .type "list", data := .seq its.toArray }, toks := t' } :=
  I.laid (fun _ _ q => Heap.get?_push_of_some _ q) (Nat.le_refl _) ⟨hz, its, 0, hv, Heap.get?_push_size _ rfl⟩
theorem Inv.fresh (I : Inv X pins σ H s) : H s.heap.objs.size = none := I.hok.fresh (Nat.le_refl _)
theorem Inv.lstM (I : Inv X pins σ H s) (hH : H l = some (.lst xs)) : xs.length ≤ sizeLine ∧ ∃ (its : List Value) (n : Nat), Vals xs its ∧ xs.length = its.length ∧ s.heap.get? l = some { cls := .type "list", data := .seq its.toArray n } := by
  obtain ⟨z, its, n, r, e⟩ := I.hok l _ hH
  exact ⟨z, its, n, r, r.length, e⟩

theorem notLongL {n : Nat} (h : n ≤ sizeLine) : Builtin.List.listTooLong n = false := by
  unfold Builtin.List.listTooLong
  exact decide_eq_false (by omega)
end

section
variable {X : Cx}

def rAppend : V → List V → Hp → VK → Prop := fun x vs H Q => ∃ l xs y, x = .ref l ∧ vs = [y] ∧ H l = some (.lst xs) ∧ xs.length < sizeLine ∧ Q .non (upd H l (.lst (xs ++ [y])))
theorem mt_append : MtM X "list.append" rAppend := by
  intro pins s σ H x vs v us Q I rx rv h
  obtain ⟨l, xs, y, rfl, rfl, hH, hz, q⟩ := h
  cases rx
  obtain ⟨u, rfl, ru⟩ := rv.one
  obtain ⟨z, its, n, r, hl, e⟩ := I.lstM hH
  refine call_meets F.slot_list_append ⟨_, e, rfl⟩ F.entry_list_append (F.args_list_append_2 _ _) (PySem.list_append l its.toArray n u (by rw [List.size_toArray]; omega)) ⟨e, ?_⟩
  refine ⟨.non, _, I.lset (its' := its ++ [u]) hH e (by simp) (r.append (.cons ru .nil)) ?_, rfl, q⟩
  rw [List.length_append, List.length_singleton]
  omega



def rPopAt : V → List V → Hp → VK → Prop := fun x vs H Q => ∃ l xs i k y, x = .ref l ∧ vs = [.int i] ∧ H l = some (.lst xs) ∧ -(2 ^ 63) ≤ i ∧ i < 2 ^ 63 ∧ seqIndex? i xs.length = some k ∧ xs[k]? = some y ∧ Q y (upd H l (.lst (xs.eraseIdx k)))
theorem mt_popAt : MtM X "list.pop" rPopAt := by
  intro pins s σ H x vs v us Q I rx rv h
  obtain ⟨l, xs, i, k, y, rfl, rfl, hH, h1, h2, hk, hy, q⟩ := h
  cases rx
  obtain ⟨u, rfl, ru⟩ := rv.one
  obtain ⟨t, rfl⟩ := ru
  obtain ⟨z, its, n, r, hl, e⟩ := I.lstM hH
  obtain ⟨w, hw, rw'⟩ := r.get hy
  refine call_meets F.slot_list_pop ⟨_, e, rfl⟩ F.entry_list_pop (F.args_list_pop_2 _ _)
    (MeetsSeq.list_pop_at l its.toArray n i t k w (fitsIndex_both h1 h2) (by rw [List.size_toArray, ← hl]; exact hk) (by rw [← Array.getElem?_toList]; exact hw) (by rw [List.size_toArray]; omega)) ⟨e, ?_⟩
  refine ⟨y, _, I.lset (its' := its.eraseIdx k) hH e ?_ (r.eraseIdx k) ?_, rw', q⟩
  · show its.toArray.eraseIdxIfInBounds k = (its.eraseIdx k).toArray
    rw [List.eraseIdxIfInBounds_toArray]
  · have := len_erase xs k
    omega



def rCat : R2 := fun x y H Q => ∃ l b xs zs, x = .ref l ∧ y = .ref b ∧ H l = some (.lst xs) ∧ H b = some (.lst zs) ∧ xs.length + zs.length ≤ sizeLine ∧ ∀ p, H p = none → Q (.ref p) (upd H p (.lst (xs ++ zs)))
theorem op_cat : OpR X (binaryOp .Add) rCat := by
  intro pins s σ H x y v u Q I rx ry h
  obtain ⟨l, b, xs, zs, rfl, rfl, hH, hB, hz, q⟩ := h
  cases rx
  cases ry
  obtain ⟨z, its, n, r, hl, e⟩ := I.lstM hH
  obtain ⟨z2, its2, n2, r2, hl2, e2⟩ := I.lstM hB
  refine PySem.P.add_list e e2 ?_ (by rw [List.size_toArray, List.size_toArray]; omega)
  have ea : its.toArray ++ its2.toArray = (its ++ its2).toArray := by simp
  rw [ea]
  exact ⟨.ref _, _, I.lnew (t' := s.toks) (r.append r2) (by rw [List.length_append]; omega), rfl, q _ I.fresh⟩
def rRep : R2 := fun x y H Q => ∃ l k xs, x = .ref l ∧ y = .int k ∧ H l = some (.lst xs) ∧ -(2 ^ 63) ≤ k ∧ k < 2 ^ 63 ∧ xs.length * k.toNat ≤ sizeLine ∧
  ∀ p, H p = none → Q (.ref p) (upd H p (.lst (List.replicate k.toNat xs).flatten))
theorem len_rep {α : Type} (xs : List α) (k : Nat) : (List.replicate k xs).flatten.length = k * xs.length := by
  induction k with
  | zero => simp
  | succ k ih => rw [List.replicate_succ, List.flatten_cons, List.length_append, ih, Nat.succ_mul, Nat.add_comm]
theorem op_rep : OpR X (binaryOp .Mult) rRep := by
  intro pins s σ H x y v u Q I rx ry h
  obtain ⟨l, k, xs, rfl, rfl, hH, h1, h2, hz, q⟩ := h
  cases rx
  obtain ⟨t, rfl⟩ := ry
  obtain ⟨z, its, n, r, hl, e⟩ := I.lstM hH
  have hlen : its.toArray.size * k.toNat ≤ sizeLine := by rw [List.size_toArray, ← hl]; exact hz
  have hcap : ¬ its.toArray.size * k.toNat > (2 ^ 63 - 1) / 8 := by
    have : (sizeLine : Nat) ≤ (2 ^ 63 - 1) / 8 := by decide
    omega
  have hfit : ¬ (!Builtin.List.listFitsIndex k) = true := by
    rw [fitsIndex_both h1 h2]
    exact Bool.false_ne_true
  have hlong : ¬ Builtin.List.listTooLong (its.toArray.size * k.toNat) = true := by
    rw [notLongL hlen]
    exact Bool.false_ne_true
  have hnew : List.foldl (fun x1 x2 => x1 ++ x2) #[] (List.replicate (if its.toArray.isEmpty = true then 0 else k.toNat) its.toArray) = (List.replicate k.toNat its).flatten.toArray := by
    have f0 : ∀ m : Nat, List.foldl (fun x1 x2 => x1 ++ x2) #[] (List.replicate m its.toArray) = (List.replicate m its).flatten.toArray := fun m => by
      have := foldl_rep its m []
      rw [List.nil_append] at this
      exact this
    rw [f0]
    cases its with
    | nil => simp
    | cons a r' => rw [if_neg (by simp)]
  refine wpAny_binaryOp_repeat_ref (T := "list") (U := "int") (by decide) ⟨_, e, rfl⟩ (fun s' => typeIs_int s' k t) noFill_list_mul F.fills_int_mul F.slot_int_rmul repeat_list F.slot_int_index.lookup
    (call_meets F.slot_int_rmul (typeIs_int s k t) F.entry_int_rmul (F.args_int_rmul_2 _ _) (int___rmul___int_list k t l its.toArray n)
      ⟨e, rfl, ⟨_, e, rfl⟩, call_meets F.slot_list_mul ⟨_, e, rfl⟩ F.entry_list_mul (F.args_list_mul_2 _ _) (AutoListH.list___mul___list_int_3 l its.toArray n k t hfit hcap hlong) ⟨e, ?_⟩⟩)
  rw [hnew]
  exact ⟨.ref _, _, I.lnew (t' := s.toks) (r.rep k.toNat) (by rw [len_rep, Nat.mul_comm]; exact hz), rfl, q _ I.fresh⟩

end

section
variable {prog : Program} {w : World} {A : Around} {E : Value → Shared → Prop} {s : Shared}
end

section
variable {X : Cx}
end
end L2

namespace Att
open PySem PySem.W PySem.Calls PyProof.Rows

theorem ints_of_wellAll {P : Params} {h : Heap} : ∀ (ns : List Int) (vs : List Value), WellAll P h vs (ns.map WData.int) → IntsAre vs ns := by
  intro ns
  induction ns with
  | nil =>
    intro vs w
    rw [List.map_nil] at w
    cases w
    exact .nil
  | cons n ns ih =>
    intro vs w
    rw [List.map_cons] at w
    cases w with
    | cons a b =>
      cases a
      exact .cons _ _ (ih _ b)

theorem script_of {l : OpenLaw} {n : Nat} (hn : l.most = some n) {P : Params} {h : Heap} {args : List WData} {vals : List Value}
    (hpre : l.row.toRowW.claim.pre args = true) (hwl : WellAll P h vals args) :
    ∃ a vs ns, vals = [Value.ref a] ∧ args = [WData.list (ns.map WData.int)] ∧ h.get? a = some { cls := .type "list", data := .seq vs.toArray } ∧ IntsAre vs ns ∧ ns.length ≤ n := by
  have hsh : WShape.hasAll [] args [.list .int] = true := (pre_splitW hpre).1
  have hc : l.pre.holds [] { args := args } = true := (pre_splitW hpre).2
  obtain ⟨d, r, rfl, h1, h2⟩ := hasAllW_cons hsh
  obtain rfl := hasAllW_nil h2
  obtain ⟨xs, rfl, h3⟩ := hasW_list h1
  obtain ⟨ns, rfl⟩ := items_int h3
  have hlen : ns.length ≤ n := by
    unfold OpenLaw.pre at hc
    have h4 : (WTm.not (.lt (.lit (.int (n : Int))) (.len (.arg 0)))).holds [] { args := [.list (ns.map .int)] } = true := by
      have h4 := (holds_andW hc).1
      rw [hn] at h4
      exact h4
    have h5 := condW_of h4 (w_not (w_lt w_lit (w_len_list (w_arg rfl))))
    rw [List.length_map] at h5
    refine Nat.le_of_not_lt fun q => ?_
    have q' : (n : Int) < ((ns.length : Nat) : Int) := by omega
    first
      | (rw [decide_eq_true q'] at h5; exact absurd h5 (by decide))
      | (simp at h5; omega)
  cases hwl with
  | cons w1 w2 =>
    cases w2
    cases w1 with
    | list ho hall => exact ⟨_, _, ns, rfl, rfl, ho, ints_of_wellAll ns _ hall, hlen⟩

theorem post_true (l : OpenLaw) (args : List WData) : l.row.toRowW.claim.post args (.bool true) args = true :=
  postW_of (r := l.row.toRowW) (X := (true == true))
    (show WShape.has [] (.bool true) .bool = true by first | rfl | decide | simp [WShape.has, WShape.arms, WShape.armsAll])
    (show (WTm.eq .res (.lit (.bool true))).value [] { args := args, res := some (.bool true), after := args } = some (.bool (true == true)) from w_eq_bool (w_res rfl) w_lit) rfl


theorem attach_call {l : OpenLaw} {n : Nat} {q : Program} {loose : List Str} {XP : (Str → Option Value) → Heap → Prop} {YP : World → Heap → Prop} {d : DefRec}
    (hn : l.most = some n) (hdf : d.params.defaults = [])
    (call : ∀ (w : World) (s₀ s₁ : Shared) (mg mb : Str → Option Value) (fa : Addr) (o : Obj) (pm cd doc : Value) (a : Addr) (vs : List Value) (ns : List Int),
      Ground q loose [] XP w s₀ mg mb s₁.heap → YP w s₁.heap →
      s₁.heap.get? fa = some o → o.data = .func (docDef d.name d.params d.body d.scope pm cd doc) → s₁.heap.CodeRec cd d.name → mg d.name = some (.ref fa) →
      s₁.heap.get? a = some { cls := .type "list", data := .seq vs.toArray } → IntsAre vs ns → ns.length ≤ n → s₁.gens = #[] →
      codeAny (model l.prog w) callerA (.call (.ref fa) ⟨[.ref a], []⟩) (fun r s' => r = .ok (.ret (.bool true)) ∧ OldK s₁.heap s'.heap ∧ s'.os = s₁.os ∧ AllBare s'.gens) s₁) :
    WalkO q loose XP YP l.row.toRowW d [] (fun f vs => PySem.call f vs) := by
  intro w s₀ s₁ mg mb G Y fa o pm cd doc dV kV ho hd hcd hD hmg hg args vals as hpre hlay hrd hwl hlo
  obtain rfl : dV = .none := Dflts.none hD hdf
  obtain rfl : kV = .none := Dflts.noKw hD
  obtain ⟨a, vs, ns, rfl, rfl, hobj, hints, hlen⟩ := script_of hn hpre hwl
  refine enter_call (codeAny_mono (call w s₀ s₁ mg mb fa o pm cd doc a vs ns G Y ho (fd_plain hd) hcd hmg hobj hints hlen hg) fun r s' hq => ?_)
  obtain ⟨rfl, h2, h3, h4⟩ := hq
  exact ⟨.inl ⟨.bool true, .bool true, [], rfl, fun _ => rfl, .bool true, post_true l _, fun _ => ⟨List.Pairwise.nil, fun _ hm => (nomatch hm)⟩⟩, h2, h3, h4⟩


section
variable {prog : Program} {w : World} {A : Around} {E : Value → Shared → Prop} {s : Shared} {K : Frag}






end
end Att

namespace L2
open PySem PySem.Spec PyProof.Rows

theorem vals_ints : ∀ {vs : List Value} {ns : List Int}, IntsAre vs ns → Vals (ns.map V.int) vs
  | _, _, .nil => .nil
  | _, _, .cons n t h => .cons ⟨t, rfl⟩ (vals_ints h)

def Only (H : Hp) : Prop := ∀ b, H b = none ∨ ∃ o xs, H b = some (.frz o (.lst xs))

theorem law_call {P : Program} {w : World} {K : PySem.W.Frag} {mg mb : Str → Option Value} {CX : CXT} {k : Nat} {fa a : Addr} {fd : FuncData} {x : Str} {sp : Sp} {s₁ : Shared} {vs : List Value} {ns : List Int}
    (KX : K.In s₁.heap) (hns : s₁.heap.Ns mainGlobals mg) (hb : s₁.heap.Ns builtinsNs mb) (hbb : ∀ x : Str, x ≠ "__name__" → mb x = bootBuiltins x) (hlim : s₁.heap.NoLimit) (hg : s₁.gens = #[])
    (ha : s₁.heap.get? a = some { cls := .type "list", data := .seq vs.toArray }) (hi : IntsAre vs ns) (hl : ns.length ≤ sizeLine) (hr : Room k callerA)
    (F : ∀ base : Heap, K.In base → base.Ns mainGlobals mg → FnOk P w K mg base CX k fa fd [x] sp) (hbind : ∀ (s : Shared) (u : Value), BindsTo s fd ⟨[u], []⟩ [(x, u)])
    (hsp : ∀ H : Hp, Only H → SqL K H a (ns.map V.int) → sp [.ref a] H (fun v _ => v = .bl true) fun _ _ _ => False)
    (hCX : ∀ H e s', CX [] H s₁ (fun _ _ _ => False) e s' → False) :
    codeAny (model P w) callerA (.call (.ref fa) ⟨[.ref a], []⟩) (fun r s' => r = .ok (.ret (.bool true)) ∧ OldK s₁.heap s'.heap ∧ s'.os = s₁.os ∧ AllBare s'.gens) s₁ := by
  have rv := vals_ints hi
  have lenV := hi.length
  -- from an abstract heap in which nothing but the script may be tracked
  have core : ∀ H : Hp, Only H → SqL K H a (ns.map V.int) → HOk P w H s₁.heap → (∀ b, H b ≠ none → b = a) → (H a ≠ none → K.lookup a = none) →
      codeAny (model P w) callerA (.call (.ref fa) ⟨[.ref a], []⟩) (fun r s' => r = .ok (.ret (.bool true)) ∧ OldK s₁.heap s'.heap ∧ s'.os = s₁.os ∧ AllBare s'.gens) s₁ := by
    intro H hO hS hok hA hK
    have base_of : ∀ {b : Addr} {o : Obj}, s₁.heap.get? b = some o → H b = none → (hidT s₁.heap H).get? b = some o := fun e n => hidT_get e n
    have noA : ∀ {b : Addr} {o : Obj} {es : Array DictEntry} {ep : Nat}, s₁.heap.get? b = some o → o.data = .dict es ep → H b = none := fun {b o es ep} e d => by
      cases q : H b with
      | none => rfl
      | some u =>
        have e' : b = a := hA b (by rw [q]; simp)
        subst e'
        rw [ha] at e; cases e
        have d' : Data.seq vs.toArray _ = Data.dict es ep := d
        cases d'
    have nsK : ∀ {b : Addr} {m : Str → Option Value}, s₁.heap.Ns b m → (hidT s₁.heap H).Ns b m := fun {b m} ⟨o, es, ep, e, d, r⟩ => ⟨o, es, ep, base_of e (noA e d), d, r⟩
    have hKb : K.In (hidT s₁.heap H) := fun b o e => base_of (KX b o e) (by
      cases q : H b with
      | none => rfl
      | some u =>
        have e' : b = a := hA b (by rw [q]; simp)
        subst e'
        rw [hK (by rw [q]; simp)] at e; cases e)
    have hM : Mod K mg (hidT s₁.heap H) := ⟨hKb, nsK hns, ⟨mb, nsK hb, hbb⟩, let ⟨mc, h1, h2⟩ := hlim; ⟨mc, nsK h1, h2⟩⟩
    have e0 : Env0 P w K mg (hidT s₁.heap H) callerA [] s₁ H := ⟨rfl, hM, fun b o e => of_hidT e, Nat.le_of_eq (hidT_size _ _), trivial, fun b hb => absurd (show b ∈ ([] : List Addr) from hb) (by simp), hok, .of_eq hg⟩
    refine codeAny_mono ((F _ hKb (nsK hns)).run callerA [] s₁ H ⟨[.ref a], []⟩ [.ref a] [.ref a] _ _ hr e0 (hbind s₁ (.ref a)) (.cons rfl .nil) (hsp H hO hS)) fun r s' h => ?_
    cases r with
    | error e => exact (hCX H e s' h).elim
    | ok fl =>
      cases fl with
      | next => exact False.elim h
      | brk => exact False.elim h
      | cont => exact False.elim h
      | ret u =>
        obtain ⟨v, H', os, bare, un, hok', r', q⟩ := h
        have q' : v = .bl true := q
        subst q'
        obtain rfl : u = Value.bool true := r'
        refine ⟨rfl, OldK.of_keep fun b o e => ?_, os, bare⟩
        cases q : H b with
        | none => exact un.keep b o e q (by intro z; exact absurd (show b ∈ ([] : List Addr) from z) (by simp)) (by simp)
        | some u =>
          rcases hO b with z | ⟨ob, xs, z⟩
          · rw [q] at z; cases z
          · have z2 := un.frzs b ob _ z
            obtain ⟨e1, _⟩ := hok b _ z
            obtain ⟨e2, _⟩ := hok' b _ z2
            rw [e] at e1; cases e1
            exact e2
  cases hk : K.lookup a with
  | some o =>
    -- the script is one of the module's own objects
    have e := KX a o hk
    rw [ha] at e
    cases e
    refine core (fun _ => none) (fun _ => .inl rfl) (.inr ⟨_, vs.toArray, _, hk, rfl, rfl, rfl, by rw [List.size_toArray, lenV]; exact hl, by simpa using rv⟩) (fun b u z => by have z' : (none : Option HO) = some u := z; cases z') (fun b z => absurd rfl z) fun z => absurd rfl z
  | none =>
    refine core (fun b => if b = a then some (.frz { cls := .type "list", data := .seq vs.toArray } (.lst (ns.map V.int))) else none) (fun b => ?_) (.inl (.inr ⟨{ cls := .type "list", data := .seq vs.toArray }, if_pos rfl⟩)) (fun b u z => ?_) (fun b z => ?_) fun _ => hk
    · by_cases hb : b = a
      · exact .inr ⟨_, _, if_pos hb⟩
      · exact .inl (if_neg hb)
    · by_cases hb : b = a
      · have z' := (if_pos hb).symm.trans z
        cases z'
        subst hb
        exact ⟨ha, by rw [List.length_map]; exact hl, vs, _, rv, ha⟩
      · have z' := (if_neg hb).symm.trans z
        cases z'
    · by_cases hb : b = a
      · exact hb
      · exact absurd (if_neg hb) z
end L2

namespace L2
open PySem PySem.Spec PyProof.Rows


theorem walk_of {l : PySem.W.OpenLaw} {n k : Nat} {q : Program} {loose : List Str} {XP : (Str → Option Value) → Heap → Prop} {YP : World → Heap → Prop} {d : DefRec} {K : Params → PySem.W.Frag} {CX : World → CXT} {sp : World → Sp} {x : Str}
    (hn : l.most = some n) (hn2 : n ≤ sizeLine) (hdf : d.params.defaults = []) (hr : Room k callerA)
    (hY : ∀ (w : World) (h : Heap), YP w h → (K w.params).In h)
    (F : ∀ (w : World) (mg : Str → Option Value) (fa : Addr) (h : Heap), (K w.params).In h → h.Ns mainGlobals mg → mg d.name = some (.ref fa) →
      ∃ fd : FuncData, (∀ (s : Shared) (u : Value), BindsTo s fd ⟨[u], []⟩ [(x, u)]) ∧
        ∀ base : Heap, (K w.params).In base → base.Ns mainGlobals mg → FnOk l.prog w (K w.params) mg base (CX w) k fa fd [x] (sp w))
    (hsp : ∀ (w : World) (H : Hp) (a : Addr) (ns : List Int), ns.length ≤ n → Only H → SqL (K w.params) H a (ns.map V.int) → sp w [.ref a] H (fun v _ => v = .bl true) fun _ _ _ => False)
    (hCX : ∀ (w : World) (H : Hp) (s : Shared) (e : Value) (s' : Shared), CX w [] H s (fun _ _ _ => False) e s' → False) :
    PySem.W.WalkO q loose XP YP l.row.toRowW d [] (fun f vs => PySem.call f vs) := by
  refine Att.attach_call hn hdf fun w s₀ s₁ mg mb fa o pm cd doc a vs ns G Y ho hd hcd hmg hobj hints hlen hg => ?_
  have KX := hY w _ Y
  obtain ⟨fd, hb, hF⟩ := F w mg fa _ KX G.T.g hmg
  exact law_call KX G.T.g G.T.b G.T.builtins G.T.nolimit hg hobj hints (Nat.le_trans hlen hn2) hr hF hb (fun H hO hS => hsp w H a ns hlen hO hS) fun H e s' => hCX w H s₁ e s'
end L2


namespace L2
open PySem PySem.Spec PyProof.Rows

def defArgs (s : Stmt) : Arguments := match s with
  | .FunctionDef _ a _ _ _ _ _ _ _ _ => a
  | _ => { posonlyargs := [], args := [], vararg := none, kwonlyargs := [], kw_defaults := [], kwarg := none, defaults := [] }
def defBody (s : Stmt) : List Stmt := match s with
  | .FunctionDef _ _ b _ _ _ _ _ _ _ => b
  | _ => []
def defScope (s : Stmt) : Scope := match s with
  | .FunctionDef _ _ _ _ _ _ sc _ _ _ => sc
  | _ => { kind := .function, names := [], isGenerator := false, isCoroutine := false }

abbrev CX0 : CXT := fun _ _ _ _ _ _ => False
abbrev E0 : XK := fun _ _ _ => False
theorem pass0 {X : Cx} : Passes CX0 X E0 := fun _ _ _ _ _ _ _ h => h.elim

structure Fun (K : PySem.W.Frag) (x qual : Str) (st : Stmt) (f : Addr) (fd : FuncData) : Prop where
  ex : ∃ (oc : Value) (od : Option Addr) (kV doc pm : Value) (an : Option Addr) (cdv ct : Value) (osl : Array (Option Value)),
    fd = PySem.W.fnOf x qual (defArgs st) (defBody st) (defScope st) .none kV doc pm an cdv ct ∧ K.lookup f = some ⟨oc, od, .func fd, osl⟩ ∧ PySem.W.codeIn K cdv qual = true
  kp : PySem.W.keepIn K (.ref f) = true
section
variable {P : Program} {w : World} {K : PySem.W.Frag} {mg : Str → Option Value} {base : Heap}
theorem Fun.ok {x qual : Str} {st : Stmt} {f : Addr} {fd : FuncData} {N ps : List Str} {k : Nat} {sp : Sp} (F : Fun K x qual st f fd) (S : FnScope N ps (defScope st)) (len : ∀ vs H Q E, sp vs H Q E → vs.length = ps.length)
    (hbody : ∀ (cdv : Value) (A : Around) (outer : List Env) (s : Shared) (H : Hp) (vs : List V) (Q : VK) (E : XK), Room k (A.deeper (envOfC qual (defScope st) s.heap.objs.size f cdv)) → sp vs H Q E →
      ∃ t, PSs (cxOf CX0 P w K mg base N qual (defScope st) f cdv A outer s H E).nox (defBody st) t ∧ t { nx := fun _ H' => Q .non H', rt := Q } (start N vs) H) : FnOk P w K mg base CX0 (k + 1) f fd ps sp := by
  obtain ⟨oc, od, kV, doc, pm, an, cdv, ct, osl, rfl, lk, hcd⟩ := F.ex
  refine fn_of lk hcd S len fun A outer s H vs Q E hr hsp => ?_
  obtain ⟨t, h, q⟩ := hbody cdv A outer s H vs Q E hr hsp
  exact ⟨t, h.nox, q⟩
theorem Fun.binds {x qual : Str} {st : Stmt} {f : Addr} {fd : FuncData} {ps : List Str} (F : Fun K x qual st f fd)
    (h : ∀ (kV doc pm : Value) (an : Option Addr) (cdv ct : Value) (us : List Value), us.length = ps.length → bindArgs (PySem.W.fnOf x qual (defArgs st) (defBody st) (defScope st) .none kV doc pm an cdv ct) ⟨us, []⟩ = pure (ps.zip us)) : Binds K fd ps [] := by
  obtain ⟨oc, od, kV, doc, pm, an, cdv, ct, osl, rfl, lk, hcd⟩ := F.ex
  exact .all (h kV doc pm an cdv ct)
theorem fun_mk {x qual : Str} {st : Stmt} {f : Addr} {oc : Value} {od an : Option Addr} {osl : Array (Option Value)} {kV doc pm cdv ct : Value} (l : K.lookup f = some ⟨oc, od, .func (PySem.W.fnOf x qual (defArgs st) (defBody st) (defScope st) .none kV doc pm an cdv ct), osl⟩)
    (c : PySem.W.codeIn K cdv qual = true) (k : PySem.W.keepIn K (.ref f) = true) : Fun K x qual st f (PySem.W.fnOf x qual (defArgs st) (defBody st) (defScope st) .none kV doc pm an cdv ct) := ⟨⟨oc, od, kV, doc, pm, an, cdv, ct, osl, rfl, l, c⟩, k⟩
end
theorem small1000 {n : Nat} (h : n ≤ 1000) : n < sizeLine := Nat.lt_of_le_of_lt h (by decide)

section
variable {X : Cx}
theorem pv (i : Nat) {x : Str} {pos : Pos} (hN : X.N[i]? = some x := by rfl) (hv : Vis X.env.scope x := by first | exact Or.inl rfl | exact Or.inr (Or.inl rfl) | exact Or.inr (Or.inr rfl)) (hd : (x == ("__debug__" : Str)) = false := by decide)
    (hcd : (x == ("__classdict__" : Str)) = false := by decide) : PE X (.Name x pos) (tVar i) := pe_var hN hv hd hcd
end

theorem iteF {A B : Prop} (h : B) : if false = true then A else B := by
  rw [if_neg Bool.false_ne_true]
  exact h
theorem iteT {A B : Prop} (h : A) : if true = true then A else B := by
  rw [if_pos rfl]
  exact h
theorem ite2 {c A B : Prop} [Decidable c] (h1 : c → A) (h2 : ¬ c → B) : if c then A else B := by
  by_cases h : c
  · rw [if_pos h]
    exact h1 h
  · rw [if_neg h]
    exact h2 h

def Same (H H' : Hp) : Prop := ∀ b o, H b = some o → H' b = some o
theorem Same.refl (H : Hp) : Same H H := fun _ _ h => h
theorem Same.trans {H H1 H2 : Hp} (a : Same H H1) (b : Same H1 H2) : Same H H2 := fun c o h => b c o (a c o h)
theorem Same.free {H H' : Hp} (e : Same H H') {l : Addr} (h : H' l = Option.none) : H l = Option.none := by
  cases q : H l with
  | none => rfl
  | some o =>
    rw [e l o q] at h
    cases h
theorem Same.seq {K : PySem.W.Frag} {H H' : Hp} {a : Addr} {xs : List V} (e : Same H H') (h : SqL K H a xs) : SqL K H' a xs := by
  rcases h with (h | ⟨o, h⟩) | h
  · exact .inl (.inl (e _ _ h))
  · exact .inl (.inr ⟨o, e _ _ h⟩)
  · exact .inr h

end L2

namespace L3
open PySem PySem.Spec PyProof.Rows L2

theorem b_len : bootBuiltins "len" = some (.builtin "len") := by decide +kernel
theorem b_max : bootBuiltins "max" = some (.builtin "max") := by decide +kernel
theorem b_min : bootBuiltins "min" = some (.builtin "min") := by decide +kernel
theorem b_repr : bootBuiltins "repr" = some (.builtin "repr") := by decide +kernel
theorem b_isinstance : bootBuiltins "isinstance" = some (.builtin "isinstance") := by decide +kernel
theorem b_all : bootBuiltins "all" = some (.builtin "all") := by decide +kernel
theorem b_any : bootBuiltins "any" = some (.builtin "any") := by decide +kernel
theorem b_sorted : bootBuiltins "sorted" = some (.builtin "sorted") := by decide +kernel
theorem b_int : bootBuiltins "int" = some (.type "int") := by decide +kernel
theorem b_bool : bootBuiltins "bool" = some (.type "bool") := by decide +kernel
theorem b_str : bootBuiltins "str" = some (.type "str") := by decide +kernel
theorem b_tuple : bootBuiltins "tuple" = some (.type "tuple") := by decide +kernel
theorem b_list : bootBuiltins "list" = some (.type "list") := by decide +kernel

def TyV (K : PySem.W.Frag) (H : Hp) (x : V) (T : String) : Prop := match x with
  | .non => T = "NoneType"
  | .bl _ => T = "bool"
  | .int _ => T = "int"
  | .str _ => T = "str"
  | .ref a => (T = "tuple" ∧ ∃ xs, SqT K H a xs) ∨ (T = "list" ∧ ∃ xs, SqL K H a xs) ∨ (T = "dict" ∧ ∃ kvs, H a = some (.dK kvs))
  | _ => False
section
variable {X : Cx} {a b c : Expr} {ta tb tc : TE} {pos : Pos}
def rIsi (K : PySem.W.Frag) : List V → Hp → VK → Prop := fun xs H Q => ∃ x T t k, xs = [x, .ty T] ∧ TyV K H x t ∧ PySem.W.kitOne K (.type t) (.type T) = some k ∧ Q (.bl k) H
theorem call_isi : CallR X (.builtin "isinstance") (rIsi X.K) := by
  intro pins s σ H xs us Q I r h
  obtain ⟨x, T, t, k, rfl, ty, e, q⟩ := h
  obtain ⟨u, w', rfl, rx, rt⟩ := vals2 r
  cases (show w' = Value.type T from rt)
  have fin : ∀ tk, EP X pins σ Q (.bool k) { s with toks := tk } := fun tk => ⟨.bl k, H, I.tok _, rfl, q⟩
  cases x with
  | non => cases (show t = "NoneType" from ty); exact isinst_ok I rx .non e fin
  | bl y => cases (show t = "bool" from ty); exact isinst_ok I rx (.bl y) e fin
  | int i => cases (show t = "int" from ty); exact isinst_ok I rx (.int i) e fin
  | str y => cases (show t = "str" from ty); exact isinst_ok I rx (.str y) e fin
  | byt y => exact ty.elim
  | flt y => exact ty.elim
  | ty y => exact ty.elim
  | ref a =>
    cases (show u = Value.ref a from rx)
    rcases ty with ⟨rfl, xs, hq⟩ | ⟨rfl, xs, hq⟩ | ⟨rfl, kvs, hq⟩
    · obtain ⟨its, _, ⟨o, h1, h2, _⟩, _⟩ := I.tuple hq
      exact PySem.W.kia_one PySem.W.kitx_tuple I.kIn ⟨o, h1, h2⟩ e (fun z => nomatch z) fin
    · obtain ⟨its, _, pl, _⟩ := I.list hq
      obtain ⟨o, h1, h2, _⟩ := pl.isList
      exact PySem.W.kia_one PySem.W.kitx_list I.kIn ⟨o, h1, h2⟩ e (fun z => nomatch z) fin
    · exact isinst_ok (x := V.ref a) I (show RelV (.ref a) (.ref a) from rfl) (.dK hq) e fin

theorem pe_tyn {x : Str} {T : String} {pos : Pos} (hg : Gl X x) (hm : X.mg x = none) (hv : bootBuiltins x = some (.type T)) (hn : x ≠ "__name__" := by decide) (hd : (x == ("__debug__" : Str)) = false := by decide) : PE X (.Name x pos) (tC (.ty T)) :=
  pe_bltn hg hm hv (show RelV (.ty T) (Value.type T) from rfl) hn hd
theorem op_mulG : OpR X (binaryOp .Mult) (rI IntMulOk fun i j => .int (i * j)) := opI fun _ _ _ _ _ _ _ hc q => mul_int q hc
def CDivL (i j : Int) : Prop := 0 < j ∧ j < 2 ^ 200
theorem CDivL.py {i j : Int} (h : CDivL i j) : Builtin.divisionGoesByPylong i j = false := by
  refine PyProof.noPylong_of_log2 ?_
  obtain ⟨h1, h2⟩ := h
  have h0 : j.natAbs ≠ 0 := by omega
  have h3 : j.natAbs < 2 ^ 200 := by
    have : (j.natAbs : Int) = j := by omega
    have h4 : ((j.natAbs : Nat) : Int) < ((2 ^ 200 : Nat) : Int) := by rw [this]; exact h2
    exact Int.ofNat_lt.mp h4
  exact Nat.lt_of_lt_of_le ((Nat.log2_lt h0).mpr h3) (by decide)
theorem op_fdivL : OpR X (binaryOp .FloorDiv) (rI CDivL fun i j => .int (i / j)) := opI fun i j _ _ _ _ _ hc q => by
  have := hc.1
  refine floordiv_int (by omega) ?_ (.inl hc.py)
  rw [Int.fdiv_eq_ediv_of_nonneg i (by omega)]
  exact q
end

def Callee (P : Program) (w : World) (K : PySem.W.Frag) (mg : Str → Option Value) (base : Heap) (k : Nat) (x : Str) (ps : List Str) (sp : Sp) : Prop :=
  ∃ (f : Addr) (fd : FuncData), FnOk P w K mg base CX0 k f fd ps sp ∧ Binds K fd ps [] ∧ PySem.W.keepIn K (.ref f) = true ∧ mg x = some (.ref f)
theorem Callee.mono {P : Program} {w : World} {K : PySem.W.Frag} {mg : Str → Option Value} {base : Heap} {j k : Nat} {x : Str} {ps : List Str} {sp : Sp} (C : Callee P w K mg base j x ps sp) (h : j ≤ k) : Callee P w K mg base k x ps sp := by
  obtain ⟨f, fd, F, b, kp, m⟩ := C
  exact ⟨f, fd, F.mono h, b, kp, m⟩
section
variable {X : Cx} {k : Nat} {ps : List Str} {sp : Sp} {x : Str} {p pos : Pos} {e : Expr} {es : List Expr} {t : TA}
theorem pe_callC (C : Callee X.prog X.w X.K X.mg X.base k x ps sp) (hr : Room k X.A) (hg : Gl X x)
    (ha : PA X (e :: es) t) (hdb : (x == ("__debug__" : Str)) = false := by decide) (he : starEach (e :: es) X.env = (false, eval e X.env) :: starEach es X.env := by rfl) (hpl : (backTo pos (starEach es X.env)).any (·.1) = false := by rfl) :
    PE X (.Call (.Name x p) (e :: es) [] pos) (tCall sp [] E0 t) := by
  obtain ⟨f, fd, F, b, kp, m⟩ := C
  exact pe_call F hr hg m kp b .nil pass0 ha hdb he hpl
end

structure Grow (m : List Addr) (H H' : Hp) : Prop where
  keep : ∀ b o, b ∉ m → H b = some o → H' b = some o
  tup : ∀ b xs, H b = some (.tup xs) → H' b = some (.tup xs)
  frz : ∀ b o u, H b = some (.frz o u) → H' b = some (.frz o u)
theorem Grow.refl (m : List Addr) (H : Hp) : Grow m H H := ⟨fun _ _ _ h => h, fun _ _ h => h, fun _ _ _ h => h⟩
theorem Grow.trans {m : List Addr} {H H1 H2 : Hp} (a : Grow m H H1) (b : Grow m H1 H2) : Grow m H H2 :=
  ⟨fun c o n h => b.keep c o n (a.keep c o n h), fun c xs h => b.tup c xs (a.tup c xs h), fun c o u h => b.frz c o u (a.frz c o u h)⟩
theorem Grow.new {m : List Addr} {H : Hp} {p : Addr} (h : H p = none) (o : HO) : Grow m H (upd H p o) :=
  ⟨fun b u _ q => by rw [upd_ne (ne_of_none q h)]; exact q, fun b xs q => by rw [upd_ne (ne_of_none q h)]; exact q, fun b u v q => by rw [upd_ne (ne_of_none q h)]; exact q⟩
theorem Grow.set {m : List Addr} {H : Hp} {p : Addr} {xs : List V} (h : H p = some (.lst xs)) (hm : p ∈ m) (ys : List V) : Grow m H (upd H p (.lst ys)) :=
  ⟨fun b u hb q => by rw [upd_ne (show b ≠ p from fun z => hb (by rw [z]; exact hm))]; exact q, fun b zs q => by rw [upd_ne (fun z => by subst z; rw [h] at q; cases q)]; exact q, fun b u v q => by rw [upd_ne (fun z => by subst z; rw [h] at q; cases q)]; exact q⟩
theorem Grow.mono {m m' : List Addr} {H H' : Hp} (a : Grow m H H') (h : ∀ b ∈ m, b ∈ m') : Grow m' H H' := ⟨fun b o n q => a.keep b o (fun z => n (h b z)) q, a.tup, a.frz⟩
theorem Grow.same {H H' : Hp} (a : Grow [] H H') : Same H H' := fun b o h => a.keep b o (by simp) h
theorem Grow.sqT {m : List Addr} {H H' : Hp} (g : Grow m H H') {K : PySem.W.Frag} {a : Addr} {xs : List V} (h : SqT K H a xs) : SqT K H' a xs := by
  rcases h with (h | ⟨o, h⟩) | h
  · exact .inl (.inl (g.tup _ _ h))
  · exact .inl (.inr ⟨o, g.frz _ _ _ h⟩)
  · exact .inr h
theorem Grow.free {H H' : Hp} {m : List Addr} (g : Grow m H H') {l : Addr} (hm : l ∉ m) (h : H' l = none) : H l = none := by
  cases q : H l with
  | none => rfl
  | some o => rw [g.keep l o hm q] at h; cases h
def Scr (K : PySem.W.Frag) (H : Hp) (a : Addr) (ns : List Int) : Prop :=
  (∃ o, H a = some (.frz o (.lst (ns.map V.int)))) ∨
    ∃ (o : Obj) (its : Array Value) (n : Nat), K.lookup a = some o ∧ o.cls = .type "list" ∧ o.dict = none ∧ o.data = .seq its n ∧ its.size ≤ sizeLine ∧ Vals (ns.map V.int) its.toList
theorem Scr.sq {K : PySem.W.Frag} {H : Hp} {a : Addr} {ns : List Int} (h : Scr K H a ns) : SqL K H a (ns.map V.int) := by
  rcases h with ⟨o, h⟩ | h
  · exact .inl (.inr ⟨o, h⟩)
  · exact .inr h
theorem Scr.of {K : PySem.W.Frag} {H : Hp} {a : Addr} {ns : List Int} (hO : Only H) (h : SqL K H a (ns.map V.int)) : Scr K H a ns := by
  rcases h with (h | ⟨o, h⟩) | h
  · rcases hO a with z | ⟨o, xs, z⟩
    · rw [h] at z; cases z
    · rw [h] at z; cases z
  · exact .inl ⟨o, h⟩
  · exact .inr h
theorem Grow.scr {m : List Addr} {H H' : Hp} (g : Grow m H H') {K : PySem.W.Frag} {a : Addr} {ns : List Int} (h : Scr K H a ns) : Scr K H' a ns := by
  rcases h with ⟨o, h⟩ | h
  · exact .inl ⟨o, g.frz _ _ _ h⟩
  · exact .inr h
end L3

namespace L3
open PySem PySem.Spec PyProof.Rows L2

structure Blt (mg : Str → Option Value) : Prop where
  abs : mg "abs" = none
  len : mg "len" = none
  max : mg "max" = none
  min : mg "min" = none
  divmod : mg "divmod" = none
  repr : mg "repr" = none
  isinstance : mg "isinstance" = none
  all : mg "all" = none
  range : mg "range" = none
  int : mg "int" = none
  bool : mg "bool" = none
  str : mg "str" = none
  tuple : mg "tuple" = none
  list : mg "list" = none
  dict : mg "dict" = none

def sp1 (b : V → Hp → VK → Prop) : Sp := fun vs H Q _ => ∃ x, vs = [x] ∧ b x H Q
def sp2 (b : V → V → Hp → VK → Prop) : Sp := fun vs H Q _ => ∃ x y, vs = [x, y] ∧ b x y H Q
def sp3 (b : V → V → V → Hp → VK → Prop) : Sp := fun vs H Q _ => ∃ x y z, vs = [x, y, z] ∧ b x y z H Q
theorem sp1_len {b : V → Hp → VK → Prop} {p : Str} : ∀ vs H Q E, sp1 b vs H Q E → vs.length = [p].length := fun vs H Q E h => by
  obtain ⟨x, rfl, _⟩ := h; rfl
theorem sp2_len {b : V → V → Hp → VK → Prop} {p q : Str} : ∀ vs H Q E, sp2 b vs H Q E → vs.length = [p, q].length := fun vs H Q E h => by
  obtain ⟨x, y, rfl, _⟩ := h; rfl
theorem sp3_len {b : V → V → V → Hp → VK → Prop} {p q r : Str} : ∀ vs H Q E, sp3 b vs H Q E → vs.length = [p, q, r].length := fun vs H Q E h => by
  obtain ⟨x, y, z, rfl, _⟩ := h; rfl

def wholeV : V → Bool
  | .int _ => true
  | _ => false
def endV : V → Bool
  | .non => true
  | .int _ => true
  | _ => false
def Kn (K : PySem.W.Frag) (H : Hp) (x : V) : Prop := ∃ T, TyV K H x T
structure Deed where
  add : Int
  lo : Option Int
  hi : Option Int
  deriving DecidableEq
def ov : Option Int → V
  | none => .non
  | some i => .int i
def Deed.vs (d : Deed) : List V := [.int d.add, ov d.lo, ov d.hi]
def Deed.Ok (d : Deed) : Prop := ∀ l h, d.lo = some l → d.hi = some h → l < h ∨ (l = h ∧ d.add = 0)
def clampLo (lo : Option Int) (r : Int) : Int := match lo with
  | none => r
  | some l => if l > r then l else r
def clampHi (hi : Option Int) (r : Int) : Int := match hi with
  | none => r
  | some h => if h < r then h else r
def Deed.mk' (d : Deed) (v : Int) : Int := clampHi d.hi (clampLo d.lo (v + d.add))
def ordV : V → V → V → Bool
  | .int a, .int l, .int h => decide (l < h) || (decide (l = h) && decide (a = 0))
  | _, _, _ => true
def tupDeed : List V → Bool
  | [x, y, z] => wholeV x && (endV y && (endV z && ordV x y z))
  | _ => false
theorem tupDeed_ok {d : Deed} (h : d.Ok) : tupDeed d.vs = true := by
  obtain ⟨a, lo, hi⟩ := d
  cases lo with
  | none => cases hi <;> rfl
  | some l =>
    cases hi with
    | none => rfl
    | some u =>
      have := h l u rfl rfl
      show (decide (l < u) || (decide (l = u) && decide (a = 0))) = true
      rcases this with q | ⟨q, q2⟩
      · simp [q]
      · have q2' : a = 0 := q2
        simp [q, q2']
theorem whole_int {x : V} (h : wholeV x = true) : ∃ i, x = .int i := by
  cases x <;> first | exact ⟨_, rfl⟩ | cases h
theorem end_ov {x : V} (h : endV x = true) : ∃ o, x = ov o := by
  cases x <;> first | exact ⟨none, rfl⟩ | exact ⟨some _, rfl⟩ | cases h
theorem len3 {xs : List V} (h : xs.length = 3) : ∃ x y z, xs = [x, y, z] := by
  match xs, h with
  | [x, y, z], _ => exact ⟨x, y, z, rfl⟩
theorem tupDeed_len {xs : List V} (h : xs.length ≠ 3) : tupDeed xs = false := by
  match xs, h with
  | [], _ => rfl
  | [_], _ => rfl
  | [_, _], _ => rfl
  | [_, _, _], h => exact absurd rfl h
  | _ :: _ :: _ :: _ :: _, _ => rfl
def DeedAt (K : PySem.W.Frag) (H : Hp) (x : V) (d : Deed) : Prop := ∃ a, x = .ref a ∧ SqT K H a d.vs
theorem Grow.deed {m : List Addr} {H H' : Hp} (g : Grow m H H') {K : PySem.W.Frag} {x : V} {d : Deed} (h : DeedAt K H x d) : DeedAt K H' x d := by
  obtain ⟨a, e, h⟩ := h
  exact ⟨a, e, g.sqT h⟩
theorem kn_int {K : PySem.W.Frag} {H : Hp} {i : Int} : Kn K H (.int i) := ⟨"int", rfl⟩
theorem kn_non {K : PySem.W.Frag} {H : Hp} : Kn K H .non := ⟨"NoneType", rfl⟩
theorem kn_ov {K : PySem.W.Frag} {H : Hp} (o : Option Int) : Kn K H (ov o) := by cases o; exact kn_non; exact kn_int

def sp_is_whole (K : PySem.W.Frag) : Sp := sp1 fun x H Q => Kn K H x ∧ Q (.bl (wholeV x)) H
def sp_is_end (K : PySem.W.Frag) : Sp := sp1 fun x H Q => Kn K H x ∧ Q (.bl (endV x)) H
def sp_is_deed (K : PySem.W.Frag) : Sp := sp1 fun x H Q => (∃ T, T ≠ "tuple" ∧ TyV K H x T ∧ Q (.bl false) H) ∨ ∃ a xs, x = .ref a ∧ SqT K H a xs ∧ (∀ y ∈ xs, Kn K H y) ∧ Q (.bl (tupDeed xs)) H
def sp_made (K : PySem.W.Frag) : Sp := sp2 fun x y H Q => ∃ d v, DeedAt K H x d ∧ y = .int v ∧ Q (.int (d.mk' v)) H

def Pot (H : Hp) (a : Addr) : Prop := ∃ p0 p1 : Int, H a = some (.lst [.int p0, .int p1]) ∧ 0 ≤ p0
def Sm (n : Int) : Prop := -(10 ^ 30) < n ∧ n < 10 ^ 30
def Deed.Sm (d : Deed) : Prop := L3.Sm d.add ∧ (∀ l, d.lo = some l → L3.Sm l) ∧ ∀ h, d.hi = some h → L3.Sm h
def sp_pot (K : PySem.W.Frag) : Sp := sp2 fun x y H Q => ∃ a ns k, x = .ref a ∧ y = .int k ∧ Scr K H a ns ∧ 0 ≤ k ∧ k < 1000 ∧ ∀ p H', H p = none → Grow [] H H' → Pot H' p → Q (.ref p) H'
def sp_take (_ : PySem.W.Frag) : Sp := sp2 fun x y H Q => ∃ a m, x = .ref a ∧ y = .int m ∧ Pot H a ∧ 0 < m ∧ m < 2 ^ 200 ∧ ∀ n H', 0 ≤ n → n < m → Grow [a] H H' → Pot H' a → Q (.int n) H'
theorem Sm.of {n : Int} (h1 : -(10 ^ 30) < n) (h2 : n < 10 ^ 30) : Sm n := ⟨h1, h2⟩
def sp_law (K : PySem.W.Frag) : Sp := sp1 fun x H Q => ∃ a ns, x = .ref a ∧ Scr K H a ns ∧ ns.length ≤ 63 ∧ ∀ H', Q (.bl true) H'
theorem szl {n : Nat} (h : Nat.ble n 1000 = true) : n ≤ sizeLine := Nat.le_of_lt (small1000 (Nat.le_of_ble_eq_true h))
theorem Grow.shrink {H H' : Hp} {l : Addr} (h : H l = none) (g : Grow [l] H H') : Grow [] H H' :=
  ⟨fun b o _ q => g.keep b o (fun z => by rw [List.mem_singleton.mp z] at q; rw [h] at q; cases q) q, g.tup, g.frz⟩
theorem Grow.wk {m : List Addr} {H H' : Hp} (g : Grow [] H H') : Grow m H H' := g.mono (by simp)
theorem Pot.grow {H H' : Hp} {a : Addr} (p : Pot H a) (g : Grow [] H H') : Pot H' a := by
  obtain ⟨u0, u1, hu, hn⟩ := p
  exact ⟨u0, u1, g.keep _ _ (by simp) hu, hn⟩
theorem Pot.new {H : Hp} {a l : Addr} (p : Pot H a) (hl : H l = none) (o : HO) : Pot (upd H l o) a := p.grow (Grow.new hl o)
theorem mulOkR {i j : Int} (h2 : -(2 ^ 60) < j ∧ j < 2 ^ 60) : IntMulOk i j := PySem.IntMulOk.of_right (Nat.le_trans ((PySem.intBits_le_iff (m := 60)).mpr (by obtain ⟨a, b⟩ := h2; omega)) (by decide))
end L3

namespace L3
open PySem PySem.Spec PyProof.Rows L2

section
variable {prog : Program} {w : World} {A : Around} {R : Result → Shared → Prop} {s : Shared}
theorem comp_loop {elt target iter : Expr} {ifs : List Expr} {scope : Scope} {pos : Pos} {it acc : Value} {env : Env} (I : Nat → Shared → Prop)
    (turn : ∀ n s, I n s → wpAny (model prog w) A (pyNext it) (fun r s₁ => match r with
      | none => R (.ok .next) s₁
      | some v => wpAny (model prog w) A (letOwnedTupleGo target it v) (fun _ s₂ => wpAny (model prog w) A (assign target env v) (fun _ s₃ =>
          wpAny (model prog w) A (forIn ifs true fun c r => if r = true then do let ok ← isTrue c env (eval c env); pure (ForInStep.yield ok) else pure (ForInStep.yield r)) (fun ok s₄ =>
            if ok = true then wpAny (model prog w) A (eval elt env) (fun x s₅ =>
              wpAny (model prog w) A (call (.builtin "list.append") [acc, x]) (fun _ s₆ => ∃ m, m < n ∧ I m s₆) (fun _ _ => False) s₅) (fun _ _ => False) s₄
            else ∃ m, m < n ∧ I m s₄) (fun _ _ => False) s₃) (fun _ _ => False) s₂) (fun _ _ => False) s₁) (fun _ _ => False) s)
    (n : Nat) (h : I n s) :
    codeAny (model prog w) A (.compLoop (.ListComp elt [⟨target, iter, ifs, 0⟩] scope pos) 0 it acc env) R s := by
  refine codeAny_loop rfl I (fun n s hI => ?_) n h
  show wpAny _ A ((compTurn (.ListComp elt [⟨target, iter, ifs, 0⟩] scope pos) 0 it acc env).onRaise (fun x => do noteFrame x env; theTreesLotGoes x)) _ _ s
  refine wpAny_noted ?_
  rw [compTurn_list]
  have no : ∀ (E : Value → Shared → Prop) (e : Value) (s : Shared), (fun (_ : Value) (_ : Shared) => False) e s → E e s := fun _ _ _ f => f.elim
  refine wpAny_bind (wpAny_standAt (wpAny_bind (wpAny_mono (turn n s hI) (fun r s₁ h₁ => ?_) (no _))))
  cases r with
  | none => exact wpAny_pure h₁
  | some v =>
    refine wpAny_bind (wpAny_mono h₁ (fun _ s₂ h₂ => ?_) (no _))
    refine wpAny_bind (wpAny_mono h₂ (fun _ s₃ h₃ => wpAny_bind (wpAny_mono h₃ (fun ok s₄ h₄ => ?_) (no _))) (no _))
    cases ok with
    | true =>
      simp only [if_true] at h₄ ⊢
      exact wpAny_bind (wpAny_bind (wpAny_mono h₄ (fun x s₅ h₅ => wpAny_bind (wpAny_mono h₅ (fun _ s₆ h₆ => wpAny_pure (wpAny_pure ⟨rfl, h₆⟩)) (no _))) (no _)))
    | false =>
      simp only [Bool.false_eq_true, if_false] at h₄ ⊢
      first
        | exact wpAny_bind (wpAny_pure (wpAny_pure ⟨rfl, h₄⟩))
        | exact wpAny_pure ⟨rfl, h₄⟩
end

theorem closure_ok {scope : Scope} {env : Env} (hfree : ∀ y ∈ scope.names, y.2 = .free → ∃ c, env.cells.lookup y.1 = some c) :
    ∃ cl, closureFor scope env = pure cl ∧ (∀ x c, cl.lookup x = some c → env.cells.lookup x = some c) ∧ ∀ y ∈ scope.names, y.2 = .free → ∃ c, cl.lookup y.1 = some c := by
  have key : ∀ (l : List (Str × NameKind)) (cs : List (Str × Addr)), (∀ y ∈ l, y.2 = .free → ∃ c, env.cells.lookup y.1 = some c) → (∀ x c, cs.lookup x = some c → env.cells.lookup x = some c) →
      ∃ cl, (forIn l cs (fun (x : Str × NameKind) r => do if x.2 == .free then do let c ← cellOf env x.1; pure (ForInStep.yield ((x.1, c) :: r)) else pure (ForInStep.yield r)) : Sem (List (Str × Addr))) = pure cl ∧
        (∀ x c, cl.lookup x = some c → env.cells.lookup x = some c) ∧ (∀ y ∈ l, y.2 = .free → ∃ c, cl.lookup y.1 = some c) ∧ ∀ x c, cs.lookup x = some c → ∃ c', cl.lookup x = some c' := by
    intro l
    induction l with
    | nil => intro cs _ h2; exact ⟨cs, rfl, h2, fun y hy => absurd hy (by simp), fun x c h => ⟨c, h⟩⟩
    | cons y r ih =>
      intro cs h1 h2
      obtain ⟨n, k⟩ := y
      by_cases hk : k = .free
      · subst hk
        obtain ⟨c, hc⟩ := h1 (n, .free) (by simp) rfl
        have hc' : env.cells.lookup n = some c := hc
        have e0 : cellOf env n = pure c := by unfold cellOf; rw [hc']
        obtain ⟨cl, e, p1, p2, p3⟩ := ih ((n, c) :: cs) (fun z hz => h1 z (List.mem_cons_of_mem _ hz)) (fun x d h => by
          by_cases hx : x = n
          · subst hx
            rw [List.lookup_cons_self] at h
            cases h; exact hc'
          · rw [List.lookup_cons, beq_eq_false_iff_ne.mpr hx] at h
            exact h2 x d h)
        refine ⟨cl, ?_, p1, fun z hz => ?_, fun x d h => ?_⟩
        · rw [List.forIn_cons]
          simp only [beq_self_eq_true, if_true, e0, pure_bind]
          exact e
        · rcases List.mem_cons.mp hz with rfl | hz
          · intro _
            exact p3 n c List.lookup_cons_self
          · exact p2 z hz
        · by_cases hx : x = n
          · subst hx; exact p3 x c List.lookup_cons_self
          · exact p3 x d (by rw [List.lookup_cons, beq_eq_false_iff_ne.mpr hx]; exact h)
      · have hb : (k == NameKind.free) = false := beq_eq_false_iff_ne.mpr hk
        obtain ⟨cl, e, p1, p2, p3⟩ := ih cs (fun z hz => h1 z (List.mem_cons_of_mem _ hz)) h2
        refine ⟨cl, ?_, p1, fun z hz => ?_, p3⟩
        · rw [List.forIn_cons]
          simp only [hb, Bool.false_eq_true, if_false, pure_bind]
          exact e
        · rcases List.mem_cons.mp hz with rfl | hz
          · intro h; exact absurd h hk
          · exact p2 z hz
  obtain ⟨cl, e, p1, p2, _⟩ := key scope.names [] hfree (fun x c h => by cases h)
  refine ⟨cl, ?_, p1, p2⟩
  unfold closureFor
  first
    | (rw [show (forIn scope.names [] _ : Sem (List (Str × Addr))) = pure cl from e]; rfl)
    | (simp only [bind_pure]; exact e)
    | exact e
end L3

namespace L3
open PySem PySem.Spec PyProof.Rows L2

def PIfs (X : Cx) (ifs : List Expr) (t : TT) : Prop :=
  ∀ (pins : List (Addr × Obj)) (s : Shared) (σ : L2.St) (H : Hp) (Q : Bool → Hp → Prop), Inv X pins σ H s → t σ H Q →
    wpAny (model X.prog X.w) X.A (forIn ifs true fun c r => if r = true then do let ok ← isTrue c X.env (eval c X.env); pure (ForInStep.yield ok) else pure (ForInStep.yield r)) (TP X pins σ Q) X.xe s
def tTrue : TT := fun _ H Q => Q true H
theorem pifs_nil {X : Cx} : PIfs X [] tTrue := fun pins s σ H Q I h => wpAny_pure ⟨H, I, h⟩
theorem pifs_one {X : Cx} {c : Expr} {t : TT} (hc : PT X c t) : PIfs X [c] t := fun pins s σ H Q I h => wpAny_tests_one (hc pins s σ H Q I h)

abbrev cxC (X : Cx) (N' : List Str) (scope : Scope) (cl : List (Str × Addr)) (C D : Addr) (fp : List Addr) (s : Shared) (H : Hp) : Cx :=
  { X with N := N', s₀ := s, H₀ := H, env := compEnvC scope cl C X.env, outer := X.stack, ex := D :: fp, fn := fun _ => false, xe := fun _ _ => False }
def capt (sub : List (Option Nat)) (σ : L2.St) : L2.St := sub.map fun o => match o with
  | none => none
  | some i => (match σ[i]? with | some v => v | none => none)
def CompW (J : It) (σ0 : L2.St) (H1 : Hp) (g : TG) (tt : TT) (te : TE) (Q : VK) : Prop :=
  ∃ W : Nat → Nat → List V → L2.St → Hp → Prop, (∃ m, W 0 m [] σ0 H1) ∧ ∀ i m ys σ' H', W i m ys σ' H' →
    (J.stop i H' ∧ ∀ l, H' l = none → Q (.ref l) (upd H' l (.lst ys))) ∨
    (J.go i H' ∧ ∃ Nn : List V → L2.St → Hp → Prop, (∀ zs σ2 H2, Nn zs σ2 H2 → ∃ m', m' < m ∧ W (i + 1) m' zs σ2 H2) ∧
      ∀ x H2, J.yld i H' x H2 → g x σ' H2 fun σ2 H3 => tt σ2 H3 fun b H4 => if b = true then te σ2 H4 fun y H5 => ys.length < sizeLine ∧ Nn (ys ++ [y]) σ2 H5 else Nn ys σ2 H4)
def tComp (wi : TI) (sub : List (Option Nat)) (g : TG) (tt : TT) (te : TE) : TE := fun σ H Q => wi σ H fun J H1 => CompW J (capt sub σ) H1 g tt te Q
structure CSc (X : Cx) (scope : Scope) (N' : List Str) (sub : List (Option Nat)) : Prop where
  free : ∀ y ∈ scope.names, y.2 = .free → X.env.kindOf y.1 = some .cell
  nocell : ∀ y ∈ scope.names, y.2 ≠ .cell
  kind : scope.kind = .function
  names : ∀ y ∈ scope.names, y.2 = .local → scope.names.lookup y.1 = some .local
  len : sub.length = N'.length
  cap : ∀ (j : Nat) (y : Str) (i : Nat), N'[j]? = some y → sub[j]? = some (some i) → X.N[i]? = some y ∧ X.env.scope.names.lookup y = some .cell ∧ scope.names.lookup y = some .free

theorem HOk.track {P : Program} {w : World} {H : Hp} {h : Heap} {a : Addr} {o : HO} (x : HOk P w H h) (hn : H a = none) (new : ObjOk P w (upd H a o) h a o) : HOk P w (upd H a o) h := fun b u e => by
  by_cases hb : b = a
  · subst hb; rw [upd_same] at e; cases e; exact new
  · rw [upd_ne hb] at e
    exact (x b u e).stay (fun c v _ q => q) (fun c q => by rw [upd_ne (ne_of_none q hn)]; exact q) fun c xs q => by rw [upd_ne (ne_of_none q hn)]; exact q
theorem relabel_lookup {scope : Scope} {env : Env} {y : Str} {k : NameKind} (h : (relabel scope env).names.lookup y = some k) :
    ∃ k', scope.names.lookup y = some k' ∧ (k = k' ∨ (k = .cell ∧ k' = .free)) := by
  have key : ∀ l : List (Str × NameKind), (l.map fun (n, k) => if (k == NameKind.free && env.scope.kind == .function && env.kindOf n == some .cell) then (n, NameKind.cell) else (n, k)).lookup y = some k →
      ∃ k', l.lookup y = some k' ∧ (k = k' ∨ (k = .cell ∧ k' = .free)) := by
    intro l
    induction l with
    | nil => intro h; cases h
    | cons p r ih =>
      obtain ⟨n, k0⟩ := p
      intro h
      rw [List.map_cons] at h
      by_cases hc : (k0 == NameKind.free && env.scope.kind == .function && env.kindOf n == some .cell) = true
      · have hf : k0 = .free := by
          simp only [Bool.and_eq_true, beq_iff_eq] at hc
          exact hc.1.1
        dsimp only at h
        rw [if_pos hc, List.lookup_cons] at h
        rw [List.lookup_cons]
        cases hx : y == n with
        | true => rw [hx] at h; cases h; exact ⟨k0, rfl, .inr ⟨rfl, hf⟩⟩
        | false => rw [hx] at h; exact ih h
      · dsimp only at h
        rw [if_neg hc, List.lookup_cons] at h
        rw [List.lookup_cons]
        cases hx : y == n with
        | true => rw [hx] at h; cases h; exact ⟨_, rfl, .inl rfl⟩
        | false => rw [hx] at h; exact ih h
  exact key scope.names h
theorem relabel_cell {scope : Scope} {env : Env} {y : Str} (hk : env.scope.kind = .function) (hc : env.kindOf y = some .cell) (h : scope.names.lookup y = some .free) : (relabel scope env).names.lookup y = some .cell := by
  have key : ∀ l : List (Str × NameKind), l.lookup y = some .free → (l.map fun (n, k) => if (k == NameKind.free && env.scope.kind == .function && env.kindOf n == some .cell) then (n, NameKind.cell) else (n, k)).lookup y = some .cell := by
    intro l
    induction l with
    | nil => intro h; cases h
    | cons p r ih =>
      obtain ⟨n, k0⟩ := p
      intro h
      rw [List.map_cons]
      rw [List.lookup_cons] at h
      dsimp only
      cases hx : y == n with
      | true =>
        rw [hx] at h
        cases h
        have e : y = n := by simpa using hx
        subst e
        rw [if_pos (by simp [hk, hc]), List.lookup_cons, hx]
      | false =>
        rw [hx] at h
        by_cases hc2 : (k0 == NameKind.free && env.scope.kind == .function && env.kindOf n == some .cell) = true
        · rw [if_pos hc2, List.lookup_cons, hx]; exact ih h
        · rw [if_neg hc2, List.lookup_cons, hx]; exact ih h
  exact key scope.names h
section
variable {X : Cx} {pins : List (Addr × Obj)} {σ : L2.St} {H2 : Hp} {s₂ : Shared} {it : Addr} {fp : List Addr} {tn : Nat → Heap → Prop} {J : It} {scope : Scope} {cl : List (Str × Addr)} {N' : List Str} {sub : List (Option Nat)}
theorem comp_start {h₁ : Heap} {tk : Nat} (I : Inv X pins σ H2 s₂) (S : CSc X scope N' sub) (hcl1 : ∀ x c, cl.lookup x = some c → X.env.cells.lookup x = some c) (hcl2 : ∀ y ∈ scope.names, y.2 = .free → ∃ c, cl.lookup y.1 = some c)
    (f2 : ∀ b ∈ fp, FpOk X pins H2 b) (hfp : ∀ b ∈ fp, b < s₂.heap.objs.size) {m : Str → Option Value} {ob : Obj}
    (hns : h₁.Ns (s₂.heap.objs.size + 1) m) (hk : ∀ b o, (s₂.heap.push ob).get? b = some o → h₁.get? b = some o) :
    Inv (cxC X N' scope cl (s₂.heap.objs.size + 1) s₂.heap.objs.size fp { s₂ with heap := s₂.heap.push ob } H2) pins (capt sub σ) H2 { s₂ with heap := h₁, toks := tk } := by
  have old : ∀ b o, s₂.heap.get? b = some o → (s₂.heap.push ob).get? b = some o := fun b o e => Heap.get?_push_of_some _ e
  have old2 : ∀ b o, s₂.heap.get? b = some o → h₁.get? b = some o := fun b o e => hk b o (old b o e)
  have sz : (s₂.heap.push ob).objs.size = s₂.heap.objs.size + 1 := Heap.size_push ..
  have cells : ∀ x c, cl.lookup x = some c → c < s₂.heap.objs.size := fun x c e => let ⟨v, q⟩ := I.cell x c (hcl1 x c e); q.lt
  have has : ∀ x, ((relabel scope X.env).names.lookup x = some .cell ∨ (relabel scope X.env).names.lookup x = some .free) → ∃ c, cl.lookup x = some c := fun x hx => by
    rcases hx with hx | hx
    · obtain ⟨k', e, z⟩ := relabel_lookup hx
      rcases z with z | ⟨_, z⟩
      · subst z; exact absurd rfl (S.nocell _ (PySem.mem_of_lookup e))
      · subst z; exact hcl2 _ (PySem.mem_of_lookup e) rfl
    · obtain ⟨k', e, z⟩ := relabel_lookup hx
      rcases z with z | ⟨z, _⟩
      · subst z; exact hcl2 _ (PySem.mem_of_lookup e) rfl
      · cases z
  have frsz : ∀ b ∈ frs X.stack, b < s₂.heap.objs.size := fun b hb => by
    rcases List.mem_cons.mp (I.stkSub b hb) with z | z
    · rw [z]; exact I.lt
    · exact Nat.lt_of_not_le fun q => I.nofs q z
  refine
    { ok :=
      { mod := I.ok.mod, kind := S.kind, glob := I.ok.glob, blt := I.ok.blt
        above := by show (s₂.heap.push ob).objs.size ≤ s₂.heap.objs.size + 1; rw [sz]; exact Nat.le_refl _
        inj := fun x y c h1 h2 => I.ok.inj x y c (hcl1 x c h1) (hcl1 y c h2)
        has := has
        cab := fun x c z => by cases z
        hd := I.ok.hd, frames := I.ok.frames, stk := .inl rfl
        exf := fun b hb => ?exf
        bs := fun b o e => ⟨old b o (I.bk b o e), (I.bs b o e).2⟩
        bsz := by show X.base.objs.size ≤ (s₂.heap.push ob).objs.size; rw [sz]; exact Nat.le_succ_of_le (Nat.le_trans I.ok.bsz I.sz)
        noex := fun b o e hb => ?noex
        exfs := fun b hb => ?exfs
        funs := ?funs
        frf := I.stkFree }
      os := rfl, bare := I.bare, base := Un.kept fun b u e => hk b u e
      loc := ⟨m, hns, ?loc⟩
      cell := fun x c e => ?cell
      free := I.hok.fresh (Nat.le_succ _)
      freeC := fun x c e => I.freeC x c (hcl1 x c e)
      pin := fun p hp => ?pin
      hok := I.hok.kept old2
      len := ?len }
  case exf =>
    rcases List.mem_cons.mp hb with rfl | hb
    · exact ⟨Nat.ne_of_lt (Nat.lt_succ_self _), fun x c e => Nat.ne_of_lt (cells x c e)⟩
    · exact ⟨Nat.ne_of_lt (Nat.lt_succ_of_lt (hfp b hb)), fun x c e => (f2 b hb).2.2.2.2.1 x c (hcl1 x c e)⟩
  case noex =>
    have hl : b < X.s₀.heap.objs.size := Nat.lt_of_lt_of_le (Heap.lt_size e) I.ok.bsz
    rcases List.mem_cons.mp hb with rfl | hb
    · exact absurd (Nat.lt_of_lt_of_le hl I.sz) (Nat.lt_irrefl _)
    · rcases (f2 b hb).2.2.2.1 with z | z
      · exact I.ok.noex b o e z
      · exact absurd (Nat.lt_of_lt_of_le hl z) (Nat.lt_irrefl _)
  case exfs =>
    intro hs
    rcases List.mem_cons.mp hb with rfl | hb
    · exact absurd (frsz _ hs) (Nat.lt_irrefl _)
    · rcases List.mem_cons.mp (I.stkSub b hs) with z | z
      · exact (f2 b hb).2.1 z
      · exact (f2 b hb).2.2.1 z
  case funs => exact Heap.FunFrames.of_keeps (fun b o e _ => ⟨o, old b o e, rfl⟩) I.stack
  case loc =>
    intro j y v hj hv hvis
    obtain ⟨mX, _, lX⟩ := I.loc
    unfold capt at hv
    rw [List.getElem?_map] at hv
    cases hs : sub[j]? with
    | none => rw [hs] at hv; cases hv
    | some o =>
      rw [hs] at hv
      cases o with
      | none => cases hv
      | some i =>
        obtain ⟨hN, hc, hf⟩ := S.cap j y i hj hs
        have hv' : σ[i]? = some (some v) := by
          have z : (match σ[i]? with | some v => v | none => none) = some v := Option.some.inj hv
          cases q : σ[i]? with
          | none => rw [q] at z; cases z
          | some w => rw [q] at z; rw [show w = some v from z]
        obtain ⟨u, ru, hl⟩ := lX i y v hN hv' (.inr (.inl hc))
        refine ⟨u, ru, ?_⟩
        have kc : (relabel scope X.env).names.lookup y = some .cell := relabel_cell I.ok.kind hc hf
        rcases hl with ⟨z, _⟩ | ⟨_, c, e, ic⟩
        · have z' : X.env.scope.names.lookup y = some .local := z
          rw [hc] at z'; cases z'
        · obtain ⟨c', e'⟩ := hcl2 _ (PySem.mem_of_lookup hf) rfl
          have := hcl1 _ _ e'
          rw [e] at this; cases this
          refine .inr ⟨.inl kc, c, e', ?_⟩
          obtain ⟨oc, h1, h2⟩ := ic
          exact ⟨oc, old2 _ _ h1, h2⟩
  case cell =>
    obtain ⟨v, oc, h1, h2⟩ := I.cell x c (hcl1 x c e)
    exact ⟨v, oc, old2 _ _ h1, h2⟩
  case pin =>
    obtain ⟨p1, p2, p3, p4, p5⟩ := I.pin p hp
    refine ⟨old2 _ _ p1, p2, Nat.ne_of_lt (Nat.lt_succ_of_lt (Heap.lt_size p1)), fun hs => ?_, p5⟩
    rcases List.mem_cons.mp (I.stkSub _ hs) with z | z
    · exact p3 z
    · exact p4 z
  case len =>
    show (capt sub σ).length = N'.length
    unfold capt
    rw [List.length_map]; exact S.len
theorem comp_fin {C D : Addr} {s₀ : Shared} {s' : Shared} {σ' : L2.St} {H' : Hp} {ys : List V} {us : List Value} {k : Nat} {oC : Obj} (I : Inv X pins σ H2 s₂)
    (hs₀ : ∀ b o, s₂.heap.get? b = some o → s₀.heap.get? b = some o) (hos : s₀.os = s₂.os) (hD : s₂.heap.objs.size ≤ D) (hC : s₂.heap.objs.size ≤ C) (hDC : D ≠ C) (f2 : ∀ b ∈ fp, FpOk X pins H2 b)
    (I' : Inv (cxC X N' scope cl C D fp s₀ H2) pins σ' H' s') (hn : H' D = none) (hy : s'.heap.get? D = some { cls := .type "list", data := .seq us.toArray k }) (rv : Vals ys us) (hz : ys.length ≤ sizeLine)
    (ho : s'.heap.get? C = some oC) (hd : ∀ v, oC.data ≠ .cell v) : Inv X (pins ++ [(C, oC)]) σ (upd H' D (.lst ys)) s' ∧ FpOk X pins (upd H' D (.lst ys)) C := by
  have neD : ∀ b o, s₂.heap.get? b = some o → b ≠ D := fun b o e => Nat.ne_of_lt (Nat.lt_of_lt_of_le (Heap.lt_size e) hD)
  have nm : ∀ b o, s₂.heap.get? b = some o → b ∉ fp → b ∉ D :: fp := fun b o e h z => (List.mem_cons.mp z).elim (neD b o e) h
  have U := I'.base
  have HC : upd H' D (.lst ys) C = none := by rw [upd_ne (Ne.symm hDC)]; exact I'.free
  have fpc : FpOk X pins (upd H' D (.lst ys)) C := I.fpOk hC HC
  have un : Un (frs X.stack) fp H2 (upd H' D (.lst ys)) s₂.heap s'.heap :=
    { keep := fun b o e n h1 h2 => U.keep b o (hs₀ b o e) n h1 (nm b o e h2)
      slot := fun b o e n h1 h2 => U.slot b o (hs₀ b o e) n h1 (nm b o e h2)
      free := fun b o e n h2 => by rw [upd_ne (neD b o e)]; exact U.free b o (hs₀ b o e) n (nm b o e h2)
      there := fun b o e h2 => U.there b o (hs₀ b o e) (nm b o e h2)
      tups := fun b xs e => by have z := U.tups b xs e; rw [upd_ne (ne_of_none z hn)]; exact z
      frzs := fun b o u e => by have z := U.frzs b o u e; rw [upd_ne (ne_of_none z hn)]; exact z
      tbls := fun b ps e => by obtain ⟨more, z⟩ := U.tbls b ps e; exact ⟨more, by rw [upd_ne (ne_of_none z hn)]; exact z⟩ }
  have hok : HOk X.prog X.w (upd H' D (.lst ys)) s'.heap := HOk.track I'.hok hn ⟨hz, us, k, rv, hy⟩
  have IX : Inv X pins σ (upd H' D (.lst ys)) s' := I.call' (I'.os.trans hos) un hok I'.bare fun b hb => ⟨(f2 b hb).2.2.2.1, (f2 b hb).2.1, (f2 b hb).2.2.2.2.1, (f2 b hb).2.2.2.2.2⟩
  refine ⟨IX.pins_of fun p hp => ?_, fpc⟩
  rcases List.mem_append.mp hp with hp | hp
  · exact IX.pin p (List.mem_append_right _ hp)
  · rw [List.mem_singleton.mp hp]
    exact ⟨ho, HC, fpc.2.1, fpc.2.2.1, hd⟩
end
section
variable {X : Cx} {scope : Scope} {N' : List Str} {sub : List (Option Nat)} {x : Str} {px pos : Pos} {elt iter : Expr} {ifs : List Expr} {wi : TI} {g : TG} {tt : TT} {te : TE}
theorem CSc.clos {pins : List (Addr × Obj)} {σ : L2.St} {H : Hp} {s : Shared} (S : CSc X scope N' sub) (I : Inv X pins σ H s) : ∃ cl, closureFor scope X.env = pure cl ∧ (∀ x c, cl.lookup x = some c → X.env.cells.lookup x = some c) ∧ ∀ y ∈ scope.names, y.2 = .free → ∃ c, cl.lookup y.1 = some c :=
  closure_ok fun y hy hf => I.ok.has y.1 (.inl (S.free y hy hf))
end
end L3

namespace L3
open PySem PySem.Spec PyProof.Rows L2

def eqVs : List V → List V → Bool
  | [], [] => true
  | x :: xs, y :: ys => eqV x y && eqVs xs ys
  | _, _ => false
theorem eqVs_len : ∀ {xs ys : List V}, eqVs xs ys = true → xs.length = ys.length
  | [], [], _ => rfl
  | x :: xs, y :: ys, h => by
    have h' : (eqV x y && eqVs xs ys) = true := h
    rw [Bool.and_eq_true] at h'
    simp [eqVs_len h'.2]
  | [], _ :: _, h => by cases h
  | _ :: _, [], h => by cases h
theorem eqVs_get : ∀ {xs ys : List V}, eqVs xs ys = true ↔ xs.length = ys.length ∧ ∀ (j : Nat) (x y : V), xs[j]? = some x → ys[j]? = some y → eqV x y = true
  | [], [] => by simp [eqVs]
  | x :: xs, y :: ys => by
    show (eqV x y && eqVs xs ys) = true ↔ _
    rw [Bool.and_eq_true, eqVs_get]
    constructor
    · rintro ⟨h1, h2, h3⟩
      refine ⟨by simp [h2], fun j a b ha hb => ?_⟩
      cases j with
      | zero => simp at ha hb; subst ha hb; exact h1
      | succ j => exact h3 j a b (by simpa using ha) (by simpa using hb)
    · rintro ⟨h1, h2⟩
      exact ⟨h2 0 x y rfl rfl, by simpa using h1, fun j a b ha hb => h2 (j + 1) a b (by simpa using ha) (by simpa using hb)⟩
  | [], _ :: _ => by simp [eqVs]
  | _ :: _, [] => by simp [eqVs]
theorem eqVs_range {xs ys : List V} : ((List.range (min xs.length ys.length)).all (fun j => match xs[j]?, ys[j]? with | some x, some y => eqV x y | _, _ => true) && xs.length == ys.length) = eqVs xs ys := by
  rw [Bool.eq_iff_iff, Bool.and_eq_true, List.all_eq_true, beq_iff_eq, eqVs_get]
  constructor
  · rintro ⟨h1, h2⟩
    refine ⟨h2, fun j x y hx hy => ?_⟩
    have hj : j < xs.length := (List.getElem?_eq_some_iff.mp hx).1
    have := h1 j (List.mem_range.mpr (by rw [← h2]; simpa using hj))
    rw [hx, hy] at this
    exact this
  · rintro ⟨h1, h2⟩
    refine ⟨fun j hj => ?_, h1⟩
    have hj' := List.mem_range.mp hj
    have a : j < xs.length := by omega
    have b : j < ys.length := by omega
    rw [List.getElem?_eq_getElem a, List.getElem?_eq_getElem b]
    exact h2 j _ _ (List.getElem?_eq_getElem a) (List.getElem?_eq_getElem b)
theorem vals_at {xs : List V} {us : List Value} (r : Vals xs us) (j : Nat) (h : j < us.length) : ∃ x, xs[j]? = some x ∧ RelV x us[j] := by
  have hl := r.length
  have hx : xs[j]? = some xs[j] := List.getElem?_eq_getElem (by omega)
  obtain ⟨u, e, q⟩ := r.get hx
  rw [List.getElem?_eq_getElem h] at e
  cases e
  exact ⟨_, hx, q⟩
theorem eqs_at {A : Around} {s : Shared} {xs ys : List V} {us ws : List Value} (r1 : Vals xs us) (r2 : Vals ys ws) (f1 : xs.all flatV = true) (f2 : ys.all flatV = true) :
    ∀ j (h1 : j < us.toArray.size) (h2 : j < ws.toArray.size), SeqAt.EqAt A s us.toArray[j] ws.toArray[j] ((fun j => match xs[j]?, ys[j]? with | some x, some y => eqV x y | _, _ => true) j) := by
  intro j h1 h2
  obtain ⟨x, ex, qx⟩ := vals_at r1 j (by simpa using h1)
  obtain ⟨y, ey, qy⟩ := vals_at r2 j (by simpa using h2)
  have fx : flatV x = true := List.all_eq_true.mp f1 x (List.mem_of_getElem? ex)
  have fy : flatV y = true := List.all_eq_true.mp f2 y (List.mem_of_getElem? ey)
  show SeqAt.EqAt A s _ _ (match xs[j]?, ys[j]? with | some x, some y => eqV x y | _, _ => true)
  rw [ex, ey]
  simpa using eqAt_V qx qy fx fy
section
variable {X : Cx}
theorem isTuple_of {h : Heap} {a : Addr} {its : Array Value} (t : IsTup h a its) : h.IsTuple a its := t
end
section
variable {X : Cx} {pos : Pos}
theorem bools_are : ∀ {bs : List Bool} {us : List Value}, Vals (bs.map V.bl) us → LSm.BoolsAre us bs
  | [], _, .nil => .nil
  | b :: bs, _, .cons r t => by
    cases r
    exact .cons b (bools_are t)
theorem call_allB (hcalm : X.calm = true) : CallR X (.builtin "all") (fun xs H Q => ∃ (l : Addr) (bs : List Bool), xs = [.ref l] ∧ SqL X.K H l (bs.map V.bl) ∧ Q (.bl (bs.all id)) H) := by
  intro pins s σ H xs us Q I r h
  obtain ⟨l, bs, rfl, hl, q⟩ := h
  obtain ⟨u, rfl, rx⟩ := vals1 r
  cases (show u = Value.ref l from rx)
  obtain ⟨vs, rv, pl, _⟩ := I.list hl
  have hl' : s.heap.IsList l vs.toArray := pl.isList
  have hb : LSm.BoolsAre vs bs := bools_are rv
  have hlt : l < s.heap.objs.size := by obtain ⟨_, e, _⟩ := hl'; exact Heap.lt_size e
  refine call_all_walk (wpAny_pyIter_list hl' ?_)
  refine ⟨s.heap.objs.size, [s.heap.objs.size, l], [s.heap.objs.size], vs.toArray.size, _, _, fun i => (bs[i]?).getD true, rfl, Walks.list (A := X.A.in1) (I.ok.hd hcalm) _ l (Nat.ne_of_lt hlt) vs.toArray,
    ⟨⟨_, Heap.get?_push_size _ rfl, rfl, rfl⟩, hl'.push _⟩, fun i v s' Q' E' hP hQ => ?_, fun h' tk hk => ?_⟩
  · obtain ⟨b, e, rfl⟩ := hb.get i v (by simpa using hP)
    simp only [e, Option.getD_some] at hQ
    exact wpAny_truthy_bool hQ
  · have e : ((List.range vs.toArray.size).all fun i => (bs[i]?).getD true) = bs.all id := by
      have hlen : bs.length = vs.length := by rw [← rv.length, List.length_map]
      rw [List.size_toArray, ← hlen, Bool.eq_iff_iff, List.all_eq_true, List.all_eq_true]
      constructor
      · intro z b hb'
        obtain ⟨i, hi, rfl⟩ := List.getElem_of_mem hb'
        have := z i (List.mem_range.mpr hi)
        simpa [List.getElem?_eq_getElem hi] using this
      · intro z i hi
        have hi' := List.mem_range.mp hi
        simpa [List.getElem?_eq_getElem hi'] using z _ (List.getElem_mem hi')
    rw [e]
    exact ⟨.bl (bs.all id), H, I.kept (t' := tk) (h' := h') (LSm.kept_iter hk), rfl, q⟩
end
theorem CSc.of {X : Cx} {scope : Scope} {N' : List Str} {sub : List (Option Nat)} (sc : Scope) (NN : List Str) (e : X.env.scope = sc) (en : X.N = NN)
    (h : ((scope.names.all fun y => (y.2 != .free || sc.names.lookup y.1 == some .cell) && (y.2 != .cell) && (y.2 != .local || scope.names.lookup y.1 == some .local)) && (sub.length == N'.length) &&
      ((N'.zip sub).all fun p => match p.2 with | none => true | some i => NN[i]? == some p.1 && sc.names.lookup p.1 == some .cell && scope.names.lookup p.1 == some .free)) = true)
    (hk : scope.kind = .function) : CSc X scope N' sub := by
  rw [Bool.and_eq_true, Bool.and_eq_true] at h
  obtain ⟨⟨h1, h2⟩, h3⟩ := h
  have k1 := fun y hy => List.all_eq_true.mp h1 y hy
  refine ⟨fun y hy hf => ?_, fun y hy hc => ?_, hk, fun y hy hl => ?_, by simpa using h2, fun j y i hj hs => ?_⟩
  · have := k1 y hy
    simp only [hf, Bool.and_eq_true] at this
    have z := this.1.1
    show X.env.scope.names.lookup y.1 = _
    rw [e]; simpa using z
  · have := k1 y hy
    simp only [hc, Bool.and_eq_true] at this
    simp at this
  · have := k1 y hy
    simp only [hl, Bool.and_eq_true] at this
    simpa using this.2
  · have hm : (y, some i) ∈ N'.zip sub := by
      have : (N'.zip sub)[j]? = some (y, some i) := by
        rw [List.getElem?_zip_eq_some]; exact ⟨hj, hs⟩
      exact List.mem_of_getElem? this
    have := List.all_eq_true.mp h3 _ hm
    simp only [Bool.and_eq_true, beq_iff_eq] at this
    rw [e, en]
    exact ⟨this.1.1, this.1.2, this.2⟩
end L3

namespace L3
open PySem PySem.Spec PyProof.Rows L2
def tidyD (a : Int) (lo hi : Option Int) : Deed := if lo ≠ none ∧ lo = hi then ⟨0, lo, hi⟩ else ⟨a, lo, hi⟩
def thrO (e : Deed) (o : Option Int) (d : Option Int) : Option Int := match o with
  | none => d
  | some l => some (e.mk' l)
def joinD (d e : Deed) : Deed := tidyD (d.add + e.add) (thrO e d.lo e.lo) (thrO e d.hi e.hi)
def Deed.Bd (B : Int) (d : Deed) : Prop := (-B ≤ d.add ∧ d.add ≤ B) ∧ (∀ l, d.lo = some l → -B ≤ l ∧ l ≤ B) ∧ ∀ h, d.hi = some h → -B ≤ h ∧ h ≤ B
theorem mk_nn (a v : Int) : (Deed.mk a none none).mk' v = v + a := rfl
theorem mk_sn (a l v : Int) : (Deed.mk a (some l) none).mk' v = if l > v + a then l else v + a := rfl
theorem mk_ns (a h v : Int) : (Deed.mk a none (some h)).mk' v = if h < v + a then h else v + a := rfl
theorem mk_ss (a l h v : Int) : (Deed.mk a (some l) (some h)).mk' v = if h < (if l > v + a then l else v + a) then h else (if l > v + a then l else v + a) := rfl
def optA (o : Option Int) : Int := match o with | none => 0 | some i => (i.natAbs : Int)
def Deed.big (d : Deed) : Int := (d.add.natAbs : Int) + optA d.lo + optA d.hi + 1
theorem mk_bd {e : Deed} {B C : Int} (b : e.Bd B) (hB : 0 ≤ B) {v : Int} (h1 : -C ≤ v) (h2 : v ≤ C) (hC : 0 ≤ C) : -(B + C) ≤ e.mk' v ∧ e.mk' v ≤ B + C := by
  obtain ⟨a, lo, hi⟩ := e
  obtain ⟨⟨b1, b2⟩, b3, b4⟩ := b
  have b1' : -B ≤ a := b1
  have b2' : a ≤ B := b2
  cases lo with
  | none =>
    cases hi with
    | none => rw [mk_nn]; omega
    | some h => have := b4 h rfl; rw [mk_ns]; split <;> omega
  | some l =>
    have := b3 l rfl
    cases hi with
    | none => rw [mk_sn]; split <;> omega
    | some h => have := b4 h rfl; rw [mk_ss]; (repeat' split) <;> omega
theorem Deed.Sm.bd {d : Deed} (h : d.Sm) : d.Bd (10 ^ 30) := by
  obtain ⟨⟨a1, a2⟩, h1, h2⟩ := h
  exact ⟨⟨by omega, by omega⟩, fun l e => by have := h1 l e; exact ⟨by have := this.1; omega, by have := this.2; omega⟩, fun l e => by have := h2 l e; exact ⟨by have := this.1; omega, by have := this.2; omega⟩⟩
end L3

namespace L3
open PySem PySem.Spec PyProof.Rows L2
theorem iteF' {c : Bool} {A B : Prop} (e : c = false) (h : B) : if c = true then A else B := by rw [e]; exact iteF h
theorem iteT' {c : Bool} {A B : Prop} (e : c = true) (h : A) : if c = true then A else B := by rw [e]; exact iteT h
theorem comp_tup {K : PySem.W.Frag} {a : Addr} {xs : List V} {g : TG} {tt : TT} {te : TE} {Q : VK} {σ : L2.St} {H : Hp} (Pv : Nat → List V → L2.St → Hp → Prop) (h0 : Pv 0 [] σ H) (hl : ∀ i ys σ H, i ≤ xs.length → Pv i ys σ H → SqT K H a xs)
    (hs : ∀ i x ys σ H, xs[i]? = some x → Pv i ys σ H → g x σ H fun σ2 H3 => tt σ2 H3 fun b H4 => if b = true then te σ2 H4 fun y H5 => ys.length < sizeLine ∧ Pv (i + 1) (ys ++ [y]) σ2 H5 else Pv (i + 1) ys σ2 H4)
    (hd : ∀ ys σ H, Pv xs.length ys σ H → ∀ l, H l = none → Q (.ref l) (upd H l (.lst ys))) :
    CompW (Itt K a) σ H g tt te Q := by
  refine ⟨fun i m ys σ H => m = xs.length - i ∧ i ≤ xs.length ∧ Pv i ys σ H, ⟨xs.length, by simp, Nat.zero_le _, h0⟩, ?_⟩
  rintro i m ys σ H ⟨rfl, hi, p⟩
  have q := hl i ys σ H hi p
  by_cases hlt : i < xs.length
  · refine .inr ⟨⟨xs, xs[i], q, by simp [hlt]⟩, Pv (i + 1), fun zs σ' H' p' => ⟨xs.length - (i + 1), by omega, rfl, hlt, p'⟩, fun x H' y => ?_⟩
    obtain ⟨e, y⟩ := y
    subst e
    exact hs i x ys σ _ (y xs q) p
  · have e : i = xs.length := by omega
    subst e
    exact .inl ⟨⟨xs, q, Nat.le_refl _⟩, hd ys σ H p⟩
theorem comp_list {K : PySem.W.Frag} {a : Addr} {xs : List V} {g : TG} {tt : TT} {te : TE} {Q : VK} {σ : L2.St} {H : Hp} (Pv : Nat → List V → L2.St → Hp → Prop) (h0 : Pv 0 [] σ H) (hl : ∀ i ys σ H, i ≤ xs.length → Pv i ys σ H → SqL K H a xs)
    (hs : ∀ i x ys σ H, xs[i]? = some x → Pv i ys σ H → g x σ H fun σ2 H3 => tt σ2 H3 fun b H4 => if b = true then te σ2 H4 fun y H5 => ys.length < sizeLine ∧ Pv (i + 1) (ys ++ [y]) σ2 H5 else Pv (i + 1) ys σ2 H4)
    (hd : ∀ ys σ H, Pv xs.length ys σ H → ∀ l, H l = none → Q (.ref l) (upd H l (.lst ys))) :
    CompW (Itl K a) σ H g tt te Q := by
  refine ⟨fun i m ys σ H => m = xs.length - i ∧ i ≤ xs.length ∧ Pv i ys σ H, ⟨xs.length, by simp, Nat.zero_le _, h0⟩, ?_⟩
  rintro i m ys σ H ⟨rfl, hi, p⟩
  have q := hl i ys σ H hi p
  by_cases hlt : i < xs.length
  · refine .inr ⟨⟨xs, xs[i], q, by simp [hlt]⟩, Pv (i + 1), fun zs σ' H' p' => ⟨xs.length - (i + 1), by omega, rfl, hlt, p'⟩, fun x H' y => ?_⟩
    obtain ⟨e, y⟩ := y
    subst e
    exact hs i x ys σ _ (y xs q) p
  · have e : i = xs.length := by omega
    subst e
    exact .inl ⟨⟨xs, q, Nat.le_refl _⟩, hd ys σ H p⟩
theorem ix_tupK {X : Cx} {K : PySem.W.Frag} (h : X.K = K) : IxR X (rIxT K) := by subst h; exact ix_tup
theorem ix_listK {X : Cx} {K : PySem.W.Frag} (h : X.K = K) : IxR X (rIxL K) := by subst h; exact ix_list
theorem Deed.Bd.mono {d : Deed} {B C : Int} (b : d.Bd B) (h : B ≤ C) : d.Bd C := by
  obtain ⟨⟨b1, b2⟩, b3, b4⟩ := b
  exact ⟨⟨by omega, by omega⟩, fun l e => by have := b3 l e; omega, fun l e => by have := b4 l e; omega⟩
end L3

namespace L3
open PySem PySem.Spec PyProof.Rows L2
end L3

namespace L3
open PySem PySem.Spec PyProof.Rows L2
section
variable {X : Cx}
def rEqL (K : PySem.W.Frag) (neg : Bool) : R2 := fun x y H Q => ∃ a b xs ys, x = .ref a ∧ y = .ref b ∧ SqL K H a xs ∧ SqL K H b ys ∧ xs.all flatV = true ∧ ys.all flatV = true ∧ Q (.bl (if neg then !eqVs xs ys else eqVs xs ys)) H
theorem op_eqL {k : Nat} (hr : Room k X.A) : OpR X (compareOp .Eq) (rEqL X.K false) := by
  intro pins s σ H x y v u Q I rx ry h
  obtain ⟨a, b, xs, ys, rfl, rfl, ha, hb, f1, f2, q⟩ := h
  cases rx; cases ry
  obtain ⟨us, r1, t1, _⟩ := I.list ha
  obtain ⟨ws, r2, t2, _⟩ := I.list hb
  by_cases hl : us.length = ws.length
  · refine SeqAt.eq_listAt t1.isList t2.isList (by simpa using hl) hr.units0 (eqs_at r1 r2 f1 f2) ?_
    have e := eqVs_range (xs := xs) (ys := ys)
    have e2 : (xs.length == ys.length) = true := by rw [beq_iff_eq, r1.length, r2.length]; exact hl
    rw [e2, Bool.and_true, show min xs.length ys.length = xs.length by rw [r1.length, r2.length]; omega] at e
    rw [List.size_toArray, ← r1.length, e]
    exact ⟨.bl _, H, I, rfl, q⟩
  · refine SeqAt.eq_list_lengthsAt t1.isList t2.isList (by simpa using hl) hr.units0 ?_
    have e : eqVs xs ys = false := by
      cases z : eqVs xs ys with
      | false => rfl
      | true => exact absurd (by rw [← r1.length, ← r2.length]; exact eqVs_len z) hl
    rw [e] at q
    exact ⟨.bl _, H, I, rfl, q⟩
end
theorem eqV_int {i j : Int} : eqV (.int i) (.int j) = decide (i = j) := by rw [Bool.eq_iff_iff]; simp [eqV]
theorem eqVs_ints : ∀ {xs ys : List Int}, eqVs (xs.map V.int) (ys.map V.int) = decide (xs = ys)
  | [], [] => rfl
  | x :: xs, y :: ys => by
    show (eqV (.int x) (.int y) && eqVs (xs.map V.int) (ys.map V.int)) = _
    rw [eqV_int, eqVs_ints, Bool.eq_iff_iff]
    simp
  | [], _ :: _ => by simp [eqVs]
  | _ :: _, [] => by simp [eqVs]
theorem Grow.sqL {H H' : Hp} (g : Grow [] H H') {K : PySem.W.Frag} {a : Addr} {xs : List V} (h : SqL K H a xs) : SqL K H' a xs := by
  rcases h with (h | ⟨o, h⟩) | h
  · exact .inl (.inl (g.keep _ _ (by simp) h))
  · exact .inl (.inr ⟨o, g.frz _ _ _ h⟩)
  · exact .inr h
section
variable {K : PySem.W.Frag} {a : Addr} {xs : List V} {n : Nat} {tt : TT} {te : TE} {Q : VK} {σ : L2.St} {H : Hp}
theorem filt_step {p : V → Bool} {f : V → V} {i : Nat} {x : V} (hx : xs[i]? = some x) : ((xs.take (i + 1)).filter p).map f = ((xs.take i).filter p).map f ++ (if p x = true then [f x] else []) := by
  rw [List.take_add_one, hx, List.filter_append, List.map_append]
  congr 1
  show ((([x] : List V)).filter p).map f = _
  by_cases c : p x = true
  · rw [if_pos c, List.filter_cons_of_pos c]; rfl
  · rw [if_neg c, List.filter_cons_of_neg c]; rfl
theorem filt_len {p : V → Bool} {f : V → V} {i : Nat} (h : xs.length ≤ 1000) : (((xs.take i).filter p).map f).length < sizeLine := by
  rw [List.length_map]
  refine small1000 ?_
  have := List.length_filter_le p (xs.take i)
  have := List.length_take_le i xs
  have : (xs.take i).length ≤ xs.length := by rw [List.length_take]; omega
  omega
theorem filt_fin {p : V → Bool} {f : V → V} : ((xs.take xs.length).filter p).map f = (xs.filter p).map f := by rw [List.take_length]
theorem comp_filtT (p : V → Bool) (f : V → V) (hl : SqT K H a xs) (hlen : xs.length ≤ 1000)
    (ht : ∀ x H' (R : Bool → Hp → Prop), x ∈ xs → Grow [] H H' → (∀ H2, Grow [] H' H2 → R (p x) H2) → tt (σ.set n (some x)) H' R)
    (hs : ∀ x H' (R : VK), x ∈ xs → p x = true → Grow [] H H' → (∀ H2, Grow [] H' H2 → R (f x) H2) → te (σ.set n (some x)) H' R)
    (hd : ∀ H' l, Grow [] H H' → H' l = none → Q (.ref l) (upd H' l (.lst ((xs.filter p).map f)))) : CompW (Itt K a) σ H (gName n) tt te Q := by
  refine comp_tup (xs := xs) (fun i ys σ' H' => Grow [] H H' ∧ (σ' = σ ∨ ∃ e, σ' = σ.set n e) ∧ ys = ((xs.take i).filter p).map f) ⟨Grow.refl _ _, .inl rfl, rfl⟩ ?_ ?_ ?_
  · rintro i ys σ' H' _ ⟨g, _⟩
    exact g.sqT hl
  · rintro i x ys σ' H' hx ⟨g, hσ, rfl⟩
    have e : σ'.set n (some x) = σ.set n (some x) := by
      rcases hσ with rfl | ⟨e, rfl⟩
      · rfl
      · rw [List.set_set]
    show tt (σ'.set n (some x)) H' _
    rw [e]
    refine ht x H' _ (List.mem_of_getElem? hx) g fun H2 g2 => ?_
    by_cases c : p x = true
    · rw [if_pos c]
      refine hs x H2 _ (List.mem_of_getElem? hx) c (g.trans g2) fun H3 g3 => ⟨filt_len hlen, (g.trans g2).trans g3, .inr ⟨_, rfl⟩, ?_⟩
      rw [filt_step hx, if_pos c]
    · rw [if_neg c]
      refine ⟨g.trans g2, .inr ⟨_, rfl⟩, ?_⟩
      rw [filt_step hx, if_neg c, List.append_nil]
  · rintro ys σ' H' ⟨g, _, rfl⟩ l hl
    rw [filt_fin]
    exact hd H' l g hl
theorem filt_all {p : V → Bool} (h : ∀ x, p x = true) : xs.filter p = xs := List.filter_eq_self.mpr fun x _ => h x
theorem comp_mapT (f : V → V) (hl : SqT K H a xs) (hlen : xs.length ≤ 1000)
    (hs : ∀ x H' (R : VK), x ∈ xs → Grow [] H H' → (∀ H2, Grow [] H' H2 → R (f x) H2) → te (σ.set n (some x)) H' R)
    (hd : ∀ H' l, Grow [] H H' → H' l = none → Q (.ref l) (upd H' l (.lst (xs.map f)))) : CompW (Itt K a) σ H (gName n) tTrue te Q :=
  comp_filtT (fun _ => true) f hl hlen (fun x H' R _ _ k => k H' (Grow.refl _ _)) (fun x H' R hx _ g k => hs x H' R hx g k) (fun H' l g hl => by rw [filt_all fun _ => rfl]; exact hd H' l g hl)
end
theorem nd {d e : Deed} (h : d = e) : (!decide (d = e)) = false := by rw [decide_eq_true h]; rfl
end L3

namespace L3
open PySem PySem.Spec PyProof.Rows L2
mutual
inductive Dat (K : PySem.W.Frag) (H : Hp) : V → PyData → Prop
  | non : Dat K H .non .none
  | bl (b : Bool) : Dat K H (.bl b) (.bool b)
  | int (i : Int) : Dat K H (.int i) (.int i)
  | tup {a : Addr} {xs : List V} {ds : List PyData} : SqT K H a xs → DatAll K H xs ds → Dat K H (.ref a) (.tuple ds)
  | lst {a : Addr} {xs : List V} {ds : List PyData} : SqL K H a xs → DatAll K H xs ds → Dat K H (.ref a) (.list ds)
inductive DatAll (K : PySem.W.Frag) (H : Hp) : List V → List PyData → Prop
  | nil : DatAll K H [] []
  | cons {x : V} {xs : List V} {d : PyData} {ds : List PyData} : Dat K H x d → DatAll K H xs ds → DatAll K H (x :: xs) (d :: ds)
end
section
variable {X : Cx} {pins : List (Addr × Obj)} {σ : L2.St} {H : Hp} {s : Shared}
mutual
theorem Dat.reads (I : Inv X pins σ H s) : ∀ {x : V} {d : PyData} {u : Value}, Dat X.K H x d → RelV x u → ∃ as, Reads s.heap u d as
  | _, _, u, .non, r => by
    cases (show u = Value.none from r)
    exact ⟨_, .none⟩
  | _, _, u, .bl b, r => by
    cases (show u = Value.bool b from r)
    exact ⟨_, .bool b⟩
  | _, _, u, .int i, r => by
    obtain ⟨t, rfl⟩ := r
    exact ⟨_, .int i t⟩
  | _, _, u, .tup (a := a) hs hd, r => by
    cases (show u = Value.ref a from r)
    obtain ⟨its, r1, ⟨o, e1, e2, n, e3⟩, _⟩ := I.tuple hs
    obtain ⟨as, q⟩ := DatAll.reads I hd r1
    exact ⟨_, .tuple e1 e2 e3 q⟩
  | _, _, u, .lst (a := a) hs hd, r => by
    cases (show u = Value.ref a from r)
    obtain ⟨its, r1, ⟨o, n, e1, e2, _, e3⟩, _⟩ := I.list hs
    obtain ⟨as, q⟩ := DatAll.reads I hd r1
    exact ⟨_, .list e1 e2 e3 q⟩
theorem DatAll.reads (I : Inv X pins σ H s) : ∀ {xs : List V} {ds : List PyData} {us : List Value}, DatAll X.K H xs ds → Vals xs us → ∃ as, ReadsAll s.heap us ds as
  | _, _, _, .nil, .nil => ⟨_, .nil⟩
  | _, _, _, .cons h t, .cons r rs => by
    obtain ⟨as, q⟩ := Dat.reads I h r
    obtain ⟨bs, q2⟩ := DatAll.reads I t rs
    exact ⟨_, .cons q q2⟩
end
end
mutual
/-- a bound of the text's length -/
def wtD : PyData → Nat
  | .list xs | .tuple xs => wtAll xs + 3
  | .int _ => 1921
  | .none | .bool _ => 5
  | _ => 20000000
def wtAll : List PyData → Nat
  | [] => 0
  | x :: xs => wtD x + 2 + wtAll xs
end
mutual
theorem shown_wt : ∀ {d : PyData}, d.showable = true → d.hasDict = false → wtD d ≤ 16777216 → d.shown.length ≤ wtD d
  | .none, _, _, _ => by decide
  | .bool b, _, _, _ => by cases b <;> decide
  | .int i, h, _, _ => int_text_len_1921 (of_decide_eq_true h)
  | .str _, _, _, z => absurd (show 20000000 ≤ 16777216 from z) (by decide)
  | .list xs, h, h2, z => by
    have z' : wtAll xs + 3 ≤ 16777216 := z
    have q := shown_wtAll (xs := xs) h h2 (by omega)
    have l := listText_len_le (PyData.shownAll xs)
    show (listText (PyData.shownAll xs)).length ≤ wtAll xs + 3
    omega
  | .tuple xs, h, h2, z => by
    have z' : wtAll xs + 3 ≤ 16777216 := z
    have q := shown_wtAll (xs := xs) h h2 (by omega)
    have l := tupleText_len_le (PyData.shownAll xs)
    show (tupleText (PyData.shownAll xs)).length ≤ wtAll xs + 3
    omega
  | .dict _, _, h, _ => by cases h
theorem shown_wtAll : ∀ {xs : List PyData}, PyData.showableAll xs = true → PyData.hasDictAll xs = false → wtAll xs ≤ 16777216 → ((PyData.shownAll xs).map (·.length)).sum + 2 * (PyData.shownAll xs).length ≤ wtAll xs
  | [], _, _, _ => by decide
  | x :: xs, h, h2, z => by
    have h' : (x.showable && PyData.showableAll xs) = true := h
    have h2' : (x.hasDict || PyData.hasDictAll xs) = false := h2
    rw [Bool.and_eq_true] at h'
    rw [Bool.or_eq_false_iff] at h2'
    have z' : wtD x + 2 + wtAll xs ≤ 16777216 := z
    have q1 := shown_wt (d := x) h'.1 h2'.1 (by omega)
    have q2 := shown_wtAll (xs := xs) h'.2 h2'.2 (by omega)
    show (x.shown.length :: (PyData.shownAll xs).map (·.length)).sum + 2 * ((PyData.shownAll xs).length + 1) ≤ wtD x + 2 + wtAll xs
    rw [List.sum_cons]
    omega
end
theorem shown_fits {d : PyData} (h1 : d.showable = true) (h2 : d.hasDict = false) (h3 : wtD d ≤ 16777216) : d.shown.length ≤ sizeLine := by
  rw [sizeLine_eq]; exact Nat.le_trans (shown_wt h1 h2 h3) h3
end L3

namespace L3
open PySem PySem.Spec PyProof.Rows L2
section
variable {X : Cx} {a b : Expr} {rest : List Expr} {ta tb : TE} {pos : Pos}
end
def oD : Option Int → PyData
  | none => .none
  | some i => .int i
theorem all_trues {α : Type} (xs : List α) : (xs.map (fun _ => true)).all id = true := by rw [List.all_eq_true]; intro x hx; obtain ⟨_, _, rfl⟩ := List.mem_map.mp hx; rfl
theorem trues_eq (gs : List Int) : (gs.map V.int).map (fun _ => V.bl true) = (gs.map (fun _ => true)).map V.bl := by rw [List.map_map, List.map_map]; rfl
end L3

namespace L3
open PySem PySem.Spec PyProof.Rows L2
section
variable {K : PySem.W.Frag} {a : Addr} {xs : List V} {lo : Int} {n k : Nat} {te : TE} {Q : VK} {σ : L2.St} {H : Hp}
theorem comp_rng (Pv : Nat → List V → Hp → Prop) (h0 : Pv 0 [] H)
    (hs : ∀ i ys H', i < n → Pv i ys H' → te (σ.set k (some (.int (lo + i)))) H' fun y H5 => ys.length < sizeLine ∧ Pv (i + 1) (ys ++ [y]) H5)
    (hd : ∀ ys H', Pv n ys H' → ∀ l, H' l = none → Q (.ref l) (upd H' l (.lst ys))) : CompW (Itr lo n) σ H (gName k) tTrue te Q := by
  refine ⟨fun i m ys σ' H' => m = n - i ∧ i ≤ n ∧ (σ' = σ ∨ ∃ e, σ' = σ.set k e) ∧ Pv i ys H', ⟨n, by simp, Nat.zero_le _, .inl rfl, h0⟩, ?_⟩
  rintro i m ys σ' H' ⟨rfl, hi, hσ, p⟩
  by_cases hlt : i < n
  · refine .inr ⟨hlt, fun zs σ2 H2 => (σ2 = σ ∨ ∃ e, σ2 = σ.set k e) ∧ Pv (i + 1) zs H2, fun zs σ2 H2 p' => ⟨n - (i + 1), by omega, rfl, hlt, p'.1, p'.2⟩, fun x H2 y => ?_⟩
    obtain ⟨e, y⟩ := y
    subst e y
    have e : σ'.set k (some (V.int (lo + i))) = σ.set k (some (V.int (lo + i))) := by
      rcases hσ with rfl | ⟨e, rfl⟩
      · rfl
      · rw [List.set_set]
    show if true = true then te (σ'.set k (some (V.int (lo + i)))) H2 (fun y H5 => ys.length < sizeLine ∧ ((σ'.set k (some (V.int (lo + i))) = σ ∨ ∃ e, σ'.set k (some (V.int (lo + i))) = σ.set k e) ∧ Pv (i + 1) (ys ++ [y]) H5)) else ((σ'.set k (some (V.int (lo + i))) = σ ∨ ∃ e, σ'.set k (some (V.int (lo + i))) = σ.set k e) ∧ Pv (i + 1) ys H2)
    rw [if_pos rfl, e]
    have e2 : (fun (y : V) (H5 : Hp) => ys.length < sizeLine ∧ ((σ.set k (some (V.int (lo + i))) = σ ∨ ∃ e, σ.set k (some (V.int (lo + i))) = σ.set k e) ∧ Pv (i + 1) (ys ++ [y]) H5)) = fun y H5 => ys.length < sizeLine ∧ Pv (i + 1) (ys ++ [y]) H5 := by
      funext y H5
      exact propext ⟨fun z => ⟨z.1, z.2.2⟩, fun z => ⟨z.1, .inr ⟨_, rfl⟩, z.2⟩⟩
    rw [e2]
    exact hs i ys H2 hlt p
  · have e : i = n := by omega
    subst e
    exact .inl ⟨Nat.le_refl _, hd ys H' p⟩
theorem comp_listP (Pv : Nat → List V → Hp → Prop) (h0 : Pv 0 [] H) (hl : ∀ i ys H', Pv i ys H' → SqL K H' a xs)
    (hs : ∀ i x ys H', xs[i]? = some x → Pv i ys H' → te (σ.set k (some x)) H' fun y H5 => ys.length < sizeLine ∧ Pv (i + 1) (ys ++ [y]) H5)
    (hd : ∀ ys H', Pv xs.length ys H' → ∀ l, H' l = none → Q (.ref l) (upd H' l (.lst ys))) : CompW (Itl K a) σ H (gName k) tTrue te Q := by
  refine comp_list (xs := xs) (fun i ys σ' H' => (σ' = σ ∨ ∃ e, σ' = σ.set k e) ∧ Pv i ys H') ⟨.inl rfl, h0⟩ (fun i ys σ' H' _ p => hl i ys H' p.2) ?_ (fun ys σ' H' p l hl => hd ys H' p.2 l hl)
  rintro i x ys σ' H' hx ⟨hσ, p⟩
  have e : σ'.set k (some x) = σ.set k (some x) := by
    rcases hσ with rfl | ⟨e, rfl⟩
    · rfl
    · rw [List.set_set]
  show if true = true then te (σ'.set k (some x)) H' (fun y H5 => ys.length < sizeLine ∧ ((σ'.set k (some x) = σ ∨ ∃ e, σ'.set k (some x) = σ.set k e) ∧ Pv (i + 1) (ys ++ [y]) H5)) else ((σ'.set k (some x) = σ ∨ ∃ e, σ'.set k (some x) = σ.set k e) ∧ Pv (i + 1) ys H')
  rw [if_pos rfl, e]
  have e2 : (fun (y : V) (H5 : Hp) => ys.length < sizeLine ∧ ((σ.set k (some x) = σ ∨ ∃ e, σ.set k (some x) = σ.set k e) ∧ Pv (i + 1) (ys ++ [y]) H5)) = fun y H5 => ys.length < sizeLine ∧ Pv (i + 1) (ys ++ [y]) H5 := by
    funext y H5
    exact propext ⟨fun z => ⟨z.1, z.2.2⟩, fun z => ⟨z.1, .inr ⟨_, rfl⟩, z.2⟩⟩
  rw [e2]
  exact hs i x ys H' hx p
end
theorem Grow.fresh {m : List Addr} {H H' : Hp} (h : ∀ b ∈ m, H b = none) (g : Grow m H H') : Grow [] H H' :=
  ⟨fun b o _ q => g.keep b o (fun z => by rw [h b z] at q; cases q) q, g.tup, g.frz⟩
theorem Grow.less {m m' : List Addr} {H H' : Hp} (g : Grow m H H') (h : ∀ b ∈ m, b ∈ m' ∨ H b = none) : Grow m' H H' :=
  ⟨fun b o n q => g.keep b o (fun z => by
    rcases h b z with w | w
    · exact n w
    · rw [w] at q; cases q) q, g.tup, g.frz⟩
theorem Pot.ne {H : Hp} {a l : Addr} (p : Pot H a) (h : H l = none) : l ∉ [a] := by
  intro z
  obtain ⟨z0, z1, hz, _⟩ := p
  rw [List.mem_singleton.mp z, hz] at h
  cases h
theorem ixN_nat {n : Nat} {i : Int} (h0 : 0 ≤ i) (h : i.toNat < n) : ixN n i = some i.toNat := by
  unfold ixN; rw [if_pos h0, if_pos (by omega)]
structure Ask where
  hand : Int
  box : Int
  deed : Deed
def AskAt (K : PySem.W.Frag) (H : Hp) (x : V) (k : Ask) : Prop := ∃ r rd, x = .ref r ∧ SqT K H r [.int k.hand, .int k.box, .ref rd] ∧ SqT K H rd k.deed.vs
def AllA (K : PySem.W.Frag) (H : Hp) : List V → List Ask → Prop
  | [], [] => True
  | x :: xs, k :: ks => AskAt K H x k ∧ AllA K H xs ks
  | _, _ => False
def BoardAt (K : PySem.W.Frag) (H : Hp) (x : V) (b : List Int) : Prop := ∃ r, x = .ref r ∧ SqT K H r (b.map V.int)
def AskOk (m : Nat) (k : Ask) : Prop := 0 ≤ k.hand ∧ k.hand ≤ 15 ∧ 0 ≤ k.box ∧ k.box < m ∧ k.deed.Ok
theorem Grow.board {m : List Addr} {H H' : Hp} (g : Grow m H H') {K : PySem.W.Frag} {x : V} {b : List Int} (h : BoardAt K H x b) : BoardAt K H' x b := by
  obtain ⟨r, e, h1⟩ := h
  exact ⟨r, e, g.sqT h1⟩
theorem AllA.len {K : PySem.W.Frag} {H : Hp} : ∀ {xs : List V} {ks : List Ask}, AllA K H xs ks → xs.length = ks.length
  | [], [], _ => rfl
  | _ :: xs, _ :: ks, ⟨_, t⟩ => congrArg (· + 1) (AllA.len t)
  | [], _ :: _, h => h.elim
  | _ :: _, [], h => h.elim
theorem AllA.get {K : PySem.W.Frag} {H : Hp} : ∀ {xs : List V} {ks : List Ask} {i : Nat} {x : V}, AllA K H xs ks → xs[i]? = some x → ∃ k, ks[i]? = some k ∧ AskAt K H x k
  | _ :: _, k :: _, 0, x, ⟨h, _⟩, e => by
    obtain rfl := Option.some.inj e
    exact ⟨k, rfl, h⟩
  | _ :: _, _ :: _, i + 1, x, ⟨_, t⟩, e => AllA.get (i := i) t e
  | [], [], i, x, _, e => by cases e
  | [], _ :: _, _, _, h, _ => h.elim
  | _ :: _, [], _, _, h, _ => h.elim
def InB (B : Int) (xs : List Int) : Prop := ∀ v ∈ xs, -B < v ∧ v < B
def deedD (d : Deed) : PyData := .tuple [.int d.add, oD d.lo, oD d.hi]
def Sh (d : PyData) (w n : Nat) : Prop := d.showable = true ∧ d.hasDict = false ∧ wtD d ≤ w ∧ d.depth ≤ n
theorem Sh.mono {d : PyData} {w w' n n' : Nat} (h : Sh d w n) (h1 : w ≤ w') (h2 : n ≤ n') : Sh d w' n' := ⟨h.1, h.2.1, Nat.le_trans h.2.2.1 h1, Nat.le_trans h.2.2.2 h2⟩
theorem Sh.fits {d : PyData} {w n : Nat} (h : Sh d w n) (hw : w ≤ 16777216) : d.shown.length ≤ sizeLine := shown_fits h.1 h.2.1 (Nat.le_trans h.2.2.1 hw)
theorem InB.mono {B C : Int} {xs : List Int} (h : InB B xs) (hC : B ≤ C) : InB C xs := fun v hv => by have := h v hv; omega
def sp_is_within (K : PySem.W.Frag) : Sp := sp3 fun x y z H Q => ∃ i l u, x = .int i ∧ y = .int l ∧ z = .int u ∧ Q (.bl (decide (l ≤ i) && decide (i ≤ u))) H
def sp_is_board (K : PySem.W.Frag) : Sp := sp1 fun x H Q => ∃ b, BoardAt K H x b ∧ 1 ≤ b.length ∧ b.length ≤ 16 ∧ ∀ H', Grow [] H H' → Q (.bl true) H'
def sp_need_board (K : PySem.W.Frag) : Sp := sp1 fun x H Q => ∃ b, BoardAt K H x b ∧ 1 ≤ b.length ∧ b.length ≤ 16 ∧ ∀ H', Grow [] H H' → Q .non H'
def sp_is_ask (K : PySem.W.Frag) : Sp := sp2 fun x y H Q => ∃ b k, BoardAt K H x b ∧ AskAt K H y k ∧ AskOk b.length k ∧ Q (.bl true) H
end L3

namespace L3
open PySem PySem.Spec PyProof.Rows L2
inductive Tr where
  | leaf (n : Int)
  | node (l r : Tr)
def Tr.ht : Tr → Nat
  | .leaf _ => 0
  | .node l r => max l.ht r.ht + 1
def Tr.wt : Tr → Nat
  | .leaf _ => 1
  | .node l r => l.wt + r.wt + 1
end L3

namespace L3
open PySem PySem.Spec PyProof.Rows L2
def sp4 (b : V → V → V → V → Hp → VK → Prop) : Sp := fun vs H Q _ => ∃ x y z u, vs = [x, y, z, u] ∧ b x y z u H Q
theorem sp4_len {b : V → V → V → V → Hp → VK → Prop} {p q r s : Str} : ∀ vs H Q E, sp4 b vs H Q E → vs.length = [p, q, r, s].length := fun vs H Q E h => by
  obtain ⟨x, y, z, u, rfl, _⟩ := h; rfl
def AllR {α : Type} (R : V → α → Prop) : List V → List α → Prop
  | [], [] => True
  | x :: xs, k :: ks => R x k ∧ AllR R xs ks
  | _, _ => False
section
variable {α : Type} {R S : V → α → Prop}
theorem AllR.imp (h : ∀ x k, R x k → S x k) : ∀ {xs : List V} {ks : List α}, AllR R xs ks → AllR S xs ks
  | [], [], _ => trivial
  | _ :: _, _ :: _, ⟨a, t⟩ => ⟨h _ _ a, AllR.imp h t⟩
  | [], _ :: _, z => z.elim
  | _ :: _, [], z => z.elim
theorem AllR.len : ∀ {xs : List V} {ks : List α}, AllR R xs ks → xs.length = ks.length
  | [], [], _ => rfl
  | _ :: xs, _ :: ks, ⟨_, t⟩ => congrArg (· + 1) (AllR.len t)
  | [], _ :: _, h => h.elim
  | _ :: _, [], h => h.elim
theorem AllR.get : ∀ {xs : List V} {ks : List α} {i : Nat} {x : V}, AllR R xs ks → xs[i]? = some x → ∃ k, ks[i]? = some k ∧ R x k
  | _ :: _, k :: _, 0, x, ⟨h, _⟩, e => by
    obtain rfl := Option.some.inj e
    exact ⟨k, rfl, h⟩
  | _ :: _, _ :: _, i + 1, x, ⟨_, t⟩, e => AllR.get (i := i) t e
  | [], [], i, x, _, e => by cases e
  | [], _ :: _, _, _, h, _ => h.elim
  | _ :: _, [], _, _, h, _ => h.elim
theorem AllR.getR : ∀ {xs : List V} {ks : List α} {i : Nat} {k : α}, AllR R xs ks → ks[i]? = some k → ∃ x, xs[i]? = some x ∧ R x k
  | x :: _, _ :: _, 0, k, ⟨h, _⟩, e => by
    obtain rfl := Option.some.inj e
    exact ⟨x, rfl, h⟩
  | _ :: _, _ :: _, i + 1, k, ⟨_, t⟩, e => AllR.getR (i := i) t e
  | [], [], i, k, _, e => by cases e
  | [], _ :: _, _, _, h, _ => h.elim
  | _ :: _, [], _, _, h, _ => h.elim
theorem AllR.app : ∀ {xs ys : List V} {ks js : List α}, AllR R xs ks → AllR R ys js → AllR R (xs ++ ys) (ks ++ js)
  | [], _, [], _, _, h => h
  | _ :: _, _, _ :: _, _, ⟨h, t⟩, q => ⟨h, AllR.app t q⟩
  | [], _, _ :: _, _, h, _ => h.elim
  | _ :: _, _, [], _, h, _ => h.elim
theorem AllR.one {x : V} {k : α} (h : R x k) : AllR R [x] [k] := ⟨h, trivial⟩
theorem AllR.take : ∀ {xs : List V} {ks : List α} {n : Nat}, AllR R xs ks → AllR R (xs.take n) (ks.take n)
  | [], [], n, _ => by rw [List.take_nil, List.take_nil]; trivial
  | _ :: _, _ :: _, 0, _ => trivial
  | _ :: _, _ :: _, n + 1, ⟨h, t⟩ => ⟨h, AllR.take t⟩
  | [], _ :: _, _, h => h.elim
  | _ :: _, [], _, h => h.elim
end
def look : Deed := ⟨0, none, none⟩
def AllOk (ds : List Deed) : Prop := ∀ d ∈ ds, d.Ok
def runD (ds : List Deed) : Deed := ds.foldl joinD look
end L3

namespace L3
open PySem PySem.Spec PyProof.Rows L2
theorem AllR.drop {α : Type} {R : V → α → Prop} : ∀ {xs : List V} {ks : List α} {n : Nat}, AllR R xs ks → AllR R (xs.drop n) (ks.drop n)
  | [], [], n, _ => by rw [List.drop_nil, List.drop_nil]; trivial
  | _ :: _, _ :: _, 0, h => h
  | _ :: _, _ :: _, n + 1, ⟨h, t⟩ => AllR.drop (n := n) t
  | [], _ :: _, _, h => h.elim
  | _ :: _, [], _, h => h.elim
end L3

namespace L3
open PySem PySem.Spec PyProof.Rows L2
theorem call_lenK {X : Cx} {K : PySem.W.Frag} (h : X.K = K) : CallR X (.builtin "len") (fun xs H Q => ∃ p ys, xs = [.ref p] ∧ (SqL K H p ys ∨ SqT K H p ys) ∧ Q (.int ys.length) H) := by subst h; exact call_len_seq
def RowsAt (K : PySem.W.Frag) (H : Hp) (x : V) (rows : List (List Int)) : Prop := ∃ r xs, x = .ref r ∧ SqT K H r xs ∧ AllR (BoardAt K H) xs rows
theorem Grow.boardsR {m : List Addr} {H H' : Hp} (g : Grow m H H') {K : PySem.W.Frag} {xs : List V} {rows : List (List Int)} (h : AllR (BoardAt K H) xs rows) : AllR (BoardAt K H') xs rows := h.imp fun _ _ z => g.board z
theorem Grow.rows {m : List Addr} {H H' : Hp} (g : Grow m H H') {K : PySem.W.Frag} {x : V} {rows : List (List Int)} (h : RowsAt K H x rows) : RowsAt K H' x rows := by
  obtain ⟨r, xs, e, h1, h2⟩ := h
  exact ⟨r, xs, e, g.sqT h1, g.boardsR h2⟩
def Rng (m : Int) (xs : List Int) : Prop := ∀ v ∈ xs, 0 ≤ v ∧ v < m
def TabOk (R M : Nat) (rows : List (List Int)) : Prop := rows.length = R ∧ ∀ row ∈ rows, row.length = M ∧ Rng M row
structure Fd (R : Nat) (tab : List (List Int)) (ns : List Int) : Prop where
  tab : TabOk R R tab
  ns : Rng R ns
end L3

namespace L3
open PySem PySem.Spec PyProof.Rows L2
section
variable {prog : Program} {w : World} {A : Around} {E : Value → Shared → Prop} {s : Shared}
theorem nx_tup_item {jt t : Addr} {i : Nat} {vs : Array Value} {v : Value} {Q : Value → Shared → Prop} (hit : s.heap.IsTupleIter jt t i) (ht : s.heap.IsTuple t vs) (hv : vs[i]? = some v)
    (hQ : ∀ h', h'.IsTupleIter jt t (i + 1) → Heap.SameBut jt s.heap h' → Q v { s with heap := h' }) : wpAny (model prog w) A (Builtin.SmallTypes.nextOf (.ref jt)) Q E s := by
  obtain ⟨oj, hoj, cj, dj⟩ := id hit
  obtain ⟨ot, hot, _, nt, dt⟩ := ht
  unfold Builtin.SmallTypes.nextOf
  refine wpAny_bind (wpAny_callSpecial?_slot (name := Str.ofString "__next__") hit.typeIs F.slot_tuple_iterator_next (wpAny_call_entry F.slot_tuple_iterator_next hit.typeIs F.entry_tuple_iterator_next ?_ (F.args_tuple_iterator_next_1 _)))
  show wpAny _ _ (field (.ref jt) 0 >>= _) _ _ s
  refine wpAny_bind (wpAny_field hoj dj (x := .ref t) rfl ?_); show wpAny _ _ (if (Value.ref t == Value.none) = true then _ else _) _ _ s
  rw [if_neg (show ¬ ((Value.ref t == Value.none) = true) by exact Bool.false_ne_true)]; show wpAny _ _ (field (.ref jt) 1 >>= _) _ _ s
  refine wpAny_bind (wpAny_field hoj dj (x := .int i 0) rfl ?_); show wpAny _ _ (seqItems? (.ref t) >>= _) _ _ s
  refine wpAny_bind (wpAny_seqItems hot dt ?_); simp only [Int.toNat_natCast, hv]
  refine wpAny_bind (wpAny_setField hoj dj (by simp) (wpAny_pure ⟨v, rfl, wpAny_pure (hQ _ ⟨_, Heap.get?_update_self _ hoj (Obj.isFreed_of_fields (Obj.data_mapFields dj _)), (Obj.cls_mapFields ..).trans cj, by rw [Obj.data_mapFields dj]; simp [rawInt]⟩ (Heap.SameBut.update ..))⟩))
theorem nx_tup_end {jt t : Addr} {i : Nat} {vs : Array Value} {Q : Value → Shared → Prop} (hh : A.handled = none) (hit : s.heap.IsTupleIter jt t i) (ht : s.heap.IsTuple t vs) (hv : vs[i]? = none)
    (hE : ∀ h' e, Heap.ExtBut jt s.heap h' → (∃ o, h'.get? e = some o ∧ o.cls = .type "StopIteration") → E (.ref e) { s with heap := h' }) : wpAny (model prog w) A (Builtin.SmallTypes.nextOf (.ref jt)) Q E s := by
  obtain ⟨oj, hoj, cj, dj⟩ := id hit
  obtain ⟨ot, hot, _, nt, dt⟩ := ht
  unfold Builtin.SmallTypes.nextOf
  refine wpAny_bind (wpAny_callSpecial?_slot (name := Str.ofString "__next__") hit.typeIs F.slot_tuple_iterator_next (wpAny_call_entry F.slot_tuple_iterator_next hit.typeIs F.entry_tuple_iterator_next ?_ (F.args_tuple_iterator_next_1 _)))
  show wpAny _ _ (field (.ref jt) 0 >>= _) _ _ s
  refine wpAny_bind (wpAny_field hoj dj (x := .ref t) rfl ?_); show wpAny _ _ (if (Value.ref t == Value.none) = true then _ else _) _ _ s
  rw [if_neg (show ¬ ((Value.ref t == Value.none) = true) by exact Bool.false_ne_true)]; show wpAny _ _ (field (.ref jt) 1 >>= _) _ _ s
  refine wpAny_bind (wpAny_field hoj dj (x := .int i 0) rfl ?_); show wpAny _ _ (seqItems? (.ref t) >>= _) _ _ s
  refine wpAny_bind (wpAny_seqItems hot dt ?_); simp only [Int.toNat_natCast, hv]
  refine wpAny_bind (wpAny_rule (wpAny_bind (wpAny_setField hoj dj (by simp) ?_))); show wpAny _ _ (newExc (.type "StopIteration") [] >>= _) _ _ _
  refine wpAny_bind ?_; simp only [newExc, newTuple]
  refine wpAny_bind (wpAny_newObj_type ?_ (by size_fits)); refine wpAny_bind (m := firstArgMember _ _) (wpAny_of_eq (a := Value.none) (by first | rfl | (simp only [firstArgMember]; rfl)) ?_)
  refine wpAny_newObj_type ?_ (by size_fits); simp only [raiseNew]
  refine wpAny_bind (wpAny_handled ?_); (first | rw [show A.in1.handled = none from hh] | rw [hh])
  exact wpAny_bind (wpAny_pure (wpAny_throw (hE _ _ (((Heap.SameBut.update ..).extBut.push _).push _) ⟨_, Heap.get?_push_size _ rfl, rfl⟩)))
end
theorem draws_tup {prog : Program} {w : World} {A : Around} (hh : A.handled = none) (jt t : Addr) (hne : t ≠ jt) (vs : Array Value) :
    Draws prog w A jt [jt, t] vs.size (fun i v => vs[i]? = some v) (fun i h => h.IsTupleIter jt t i ∧ h.IsTuple t vs) where
  live := fun _ _ st => let ⟨o, ho, _⟩ := st.1; ⟨o, ho⟩
  frame := fun _ _ _ st hk => ⟨st.1.at (hk jt (by simp)), st.2.at (hk t (by simp))⟩
  item := fun i s Q E hi st hQ => nx_tup_item st.1 st.2 (v := vs[i]) (by simp [hi]) fun h' hit' hs' => hQ _ h' s.toks (by simp [hi]) ⟨hit', st.2.extBut hs'.extBut hne⟩ hs'
  done := fun s Q E st hE => nx_tup_end hh st.1 st.2 (by simp) hE
theorem draws_end {prog : Program} {w : World} {A : Around} (hh : A.handled = none) (jt t : Addr) (vs : Array Value) {i : Nat} (hv : vs[i]? = none) :
    Draws prog w A jt [jt, t] i (fun _ _ => True) (fun j h => j = i ∧ h.IsTupleIter jt t i ∧ h.IsTuple t vs) where
  live := fun _ _ st => let ⟨o, ho, _⟩ := st.2.1; ⟨o, ho⟩
  frame := fun _ _ _ st hk => ⟨st.1, st.2.1.at (hk jt (by simp)), st.2.2.at (hk t (by simp))⟩
  item := fun j s Q E hj st hQ => absurd st.1 (Nat.ne_of_lt hj)
  done := fun s Q E st hE => nx_tup_end hh st.2.1 st.2.2 hv hE
section
variable {prog : Program} {w : World} {A : Around} {E : Value → Shared → Prop} {s : Shared}
open AutoSeq1 (wpAny_loadPart')
end
section
variable {X : Cx} {pins : List (Addr × Obj)} {σ : L2.St} {H : Hp} {s : Shared} {h' : Heap}
theorem turnedL {fp : List Addr} {t' : Nat} (I : Inv X pins σ H s) (k : ∀ b o, b ∉ fp → s.heap.get? b = some o → h'.get? b = some o) (ff : ∀ b ∈ fp, FpOk X pins H b) : Inv X pins σ H { s with heap := h', toks := t' } := by
  have nit : ∀ b u, H b = some u → b ∉ fp := fun b u e z => by rw [(ff b z).1] at e; cases e
  refine I.step (g' := s.gens) (d' := s.drawn) (ch := fp) (fun b hb => ?_) (fun b o _ _ hc e _ => k b o hc e) (fun b o _ _ hc e _ => ⟨o.slots, k b o hc e⟩) (fun _ _ _ _ n => n) (fun b o hc e => ⟨o, k b o hc e⟩) (fun _ _ e => e) (fun _ _ _ e => e) (fun b ps e => ⟨#[], by rw [e]; simp⟩) (fun m hm => ?_) (fun b u e => ?_) I.bare
  · obtain ⟨_, f1, _, f3, f4, f5⟩ := ff b hb
    exact ⟨f3, f1, f4, f5⟩
  · obtain ⟨o, es, ep, ho, r⟩ := hm
    exact ⟨o, es, ep, k _ o (fun z => (ff _ z).2.1 rfl) ho, r⟩
  · refine (I.hok b u e).stay (fun c v hc q => k c v ?_ q) (fun _ q => q) fun _ _ q => q
    rcases hc with z | z
    · rw [z]; exact nit b u e
    · exact nit c _ z
theorem turnLaid {fp : List Addr} {T : Addr} {o : HO} {t' : Nat} (I : Inv X pins σ H s) (k : ∀ b o, b ∉ fp → s.heap.get? b = some o → h'.get? b = some o) (ff : ∀ b ∈ fp, FpOk X pins H b) (hT : s.heap.objs.size ≤ T)
    (new : ObjOk X.prog X.w (upd H T o) h' T o) : Inv X pins σ (upd H T o) { s with heap := h', toks := t' } := by
  have hn : H T = none := I.hok.fresh hT
  have I1 : Inv X pins σ H { s with heap := h', toks := t' } := turnedL I k ff
  have hok : HOk X.prog X.w (upd H T o) h' := HOk.track I1.hok hn new
  refine I.step (g' := s.gens) (d' := s.drawn) (ch := fp) (fun b hb => ?_) (fun b o _ _ hc e _ => k b o hc e) (fun b o _ _ hc e _ => ⟨o.slots, k b o hc e⟩) (fun b u _ e n => by rw [upd_ne (Nat.ne_of_lt (Nat.lt_of_lt_of_le (Heap.lt_size e) hT))]; exact n) (fun b o hc e => ⟨o, k b o hc e⟩)
    (fun b xs e => by rw [upd_ne (ne_of_none e hn)]; exact e) (fun b u xs e => by rw [upd_ne (ne_of_none e hn)]; exact e) (fun b ps e => ⟨#[], by rw [upd_ne (ne_of_none e hn), e]; simp⟩) (fun m hm => ?_) hok I.bare
  · obtain ⟨_, f1, _, f3, f4, f5⟩ := ff b hb
    exact ⟨f3, f1, f4, f5⟩
  · obtain ⟨o, es, ep, ho, r⟩ := hm
    exact ⟨o, es, ep, k _ o (fun z => (ff _ z).2.1 rfl) ho, r⟩
end
section
variable {X : Cx} {elts : List Expr} {kt : Nat} {pt : Pos}
theorem b_enum : bootBuiltins "enumerate" = some (.type "enumerate") := by decide +kernel
end
end L3

namespace L3
open PySem PySem.Spec PyProof.Rows L2
theorem getDd {ds : List Deed} {i : Nat} (h : i < ds.length) : ds[i]? = some (ds.getD i look) := by
  rw [List.getD_eq_getElem?_getD, List.getElem?_eq_getElem h]; rfl
def atBox (j : Int) (ks : List Ask) : List Deed := (ks.filter fun k => decide (k.box = j)).map Ask.deed
structure GInv (b : List Int) (ks : List Ask) (g : List Deed × List Deed) (p : List Int × List Int) : Prop where
  l1 : g.1.length = b.length
  l2 : g.2.length = ks.length
  p1 : p.1.length = ks.length
  p2 : p.2.length = b.length
  bd1 : ∀ d ∈ g.1, d.Ok ∧ d.Bd (ks.length * 10 ^ 30)
  bd2 : ∀ d ∈ g.2, d.Ok ∧ d.Bd (ks.length * 10 ^ 30)
  run : ∀ j : Nat, j < b.length → g.1.getD j look = runD (atBox j ks)
  val : ∀ j : Nat, j < b.length → p.2.getD j 0 = (g.1.getD j look).mk' (b.getD j 0)
  ans : ∀ i k, ks[i]? = some k → p.1.getD i 0 = (g.2.getD i look).mk' (b.getD k.box.toNat 0)
theorem AllR.set {α : Type} {R : V → α → Prop} {x : V} {k : α} (h : R x k) : ∀ {xs : List V} {ks : List α} {n : Nat}, AllR R xs ks → AllR R (xs.set n x) (ks.set n k)
  | [], [], n, _ => by cases n <;> trivial
  | _ :: _, _ :: _, 0, ⟨_, t⟩ => ⟨h, t⟩
  | _ :: _, _ :: _, n + 1, ⟨a, t⟩ => ⟨a, AllR.set h t⟩
  | [], _ :: _, _, z => z.elim
  | _ :: _, [], _, z => z.elim
section
variable {K : PySem.W.Frag} {a : Addr} {xs : List V} {k : Nat} {tt : TT} {te : TE} {Q : VK} {σ : L2.St} {H : Hp}
theorem comp_tupPT (p : V → Bool) (Pv : Nat → List V → Hp → Prop) (h0 : Pv 0 [] H) (hl : ∀ i ys H', Pv i ys H' → SqT K H' a xs)
    (ht : ∀ x H' (R : Bool → Hp → Prop), x ∈ xs → R (p x) H' → tt (σ.set k (some x)) H' R)
    (hs : ∀ i x ys H', xs[i]? = some x → Pv i ys H' → p x = true → te (σ.set k (some x)) H' fun y H5 => ys.length < sizeLine ∧ Pv (i + 1) (ys ++ [y]) H5)
    (hn : ∀ i x ys H', xs[i]? = some x → Pv i ys H' → p x = false → Pv (i + 1) ys H')
    (hd : ∀ ys H', Pv xs.length ys H' → ∀ l, H' l = none → Q (.ref l) (upd H' l (.lst ys))) : CompW (Itt K a) σ H (gName k) tt te Q := by
  refine comp_tup (xs := xs) (fun i ys σ' H' => (σ' = σ ∨ ∃ e, σ' = σ.set k e) ∧ Pv i ys H') ⟨.inl rfl, h0⟩ (fun i ys σ' H' _ p => hl i ys H' p.2) ?_ (fun ys σ' H' p l hl => hd ys H' p.2 l hl)
  rintro i x ys σ' H' hx ⟨hσ, pv⟩
  have e : σ'.set k (some x) = σ.set k (some x) := by
    rcases hσ with rfl | ⟨e, rfl⟩
    · rfl
    · rw [List.set_set]
  show tt (σ'.set k (some x)) H' _
  rw [e]
  refine ht x H' _ (List.mem_of_getElem? hx) ?_
  by_cases c : p x = true
  · rw [if_pos c]
    have e2 : (fun (y : V) (H5 : Hp) => ys.length < sizeLine ∧ ((σ.set k (some x) = σ ∨ ∃ e, σ.set k (some x) = σ.set k e) ∧ Pv (i + 1) (ys ++ [y]) H5)) = fun y H5 => ys.length < sizeLine ∧ Pv (i + 1) (ys ++ [y]) H5 := by
      funext y H5
      exact propext ⟨fun z => ⟨z.1, z.2.2⟩, fun z => ⟨z.1, .inr ⟨_, rfl⟩, z.2⟩⟩
    have z := hs i x ys H' hx pv c
    rw [← e2] at z
    exact z
  · rw [if_neg c]
    exact ⟨.inr ⟨_, rfl⟩, hn i x ys H' hx pv (by simpa using c)⟩
end
section
variable {K : PySem.W.Frag} {a : Addr} {xs : List V} {k : Nat} {tt : TT} {te : TE} {Q : VK} {σ : L2.St} {H : Hp}
end
end L3

namespace L3
open PySem PySem.Spec PyProof.Rows L2
def figI (k st l : Int) : Int := Builtin.bitAnd (l / 2 ^ (k - st).toNat) 1
def wfI (k st l w : Int) : Int := Builtin.bitXor l (Builtin.bitXor (figI k st l) w * 2 ^ (k - st).toNat)
def swI (k st l : Int) : Int := Builtin.bitOr (l / 2 ^ (k - st + 1).toNat * 2 ^ (k - st).toNat) (Builtin.bitAnd l (1 * 2 ^ (k - st).toNat - 1))
def figsL (k n : Int) : List Int := (List.range k.toNat).map fun i : Nat => Builtin.bitAnd (n / 2 ^ (k - 1 - (0 + (i : Int))).toNat) 1
def numL (xs : List Int) : Int := xs.foldl (fun f o => 2 * f + o) 0
def lineL (k h g : Int) (n : Nat) : Int := numL ((figsL k g).take n ++ (figsL k h).drop n)
def numsL (k l : Int) (st : Nat) : Int := numL ((figsL k l).take (st - 1) ++ (figsL k l).drop st)
end L3

namespace L3
open PySem PySem.Spec PyProof.Rows L2
section
variable {X : Cx}
theorem call_anyB (hcalm : X.calm = true) : CallR X (.builtin "any") (fun xs H Q => ∃ (l : Addr) (bs : List Bool), xs = [.ref l] ∧ SqL X.K H l (bs.map V.bl) ∧ Q (.bl (bs.any id)) H) := by
  intro pins s σ H xs us Q I r h
  obtain ⟨l, bs, rfl, hl, q⟩ := h
  obtain ⟨u, rfl, rx⟩ := vals1 r
  cases (show u = Value.ref l from rx)
  obtain ⟨vs, rv, pl, _⟩ := I.list hl
  have hl' : s.heap.IsList l vs.toArray := pl.isList
  have hb : LSm.BoolsAre vs bs := bools_are rv
  have hlt : l < s.heap.objs.size := by obtain ⟨_, e, _⟩ := hl'; exact Heap.lt_size e
  refine call_any_walk (wpAny_pyIter_list hl' ?_)
  refine ⟨s.heap.objs.size, [s.heap.objs.size, l], [s.heap.objs.size], vs.toArray.size, _, _, fun i => (bs[i]?).getD true, rfl, Walks.list (A := X.A.in1) (I.ok.hd hcalm) _ l (Nat.ne_of_lt hlt) vs.toArray,
    ⟨⟨_, Heap.get?_push_size _ rfl, rfl, rfl⟩, hl'.push _⟩, fun i v s' Q' E' hP hQ => ?_, fun h' tk hk => ?_⟩
  · obtain ⟨b, e, rfl⟩ := hb.get i v (by simpa using hP)
    simp only [e, Option.getD_some] at hQ
    exact wpAny_truthy_bool hQ
  · have e : ((List.range vs.toArray.size).any fun i => (bs[i]?).getD true) = bs.any id := by
      have hlen : bs.length = vs.length := by rw [← rv.length, List.length_map]
      rw [List.size_toArray, ← hlen, Bool.eq_iff_iff, List.any_eq_true, List.any_eq_true]
      constructor
      · rintro ⟨i, hi, z⟩
        have hi' := List.mem_range.mp hi
        exact ⟨bs[i], List.getElem_mem hi', by simpa [List.getElem?_eq_getElem hi'] using z⟩
      · rintro ⟨b, hb', z⟩
        obtain ⟨i, hi, rfl⟩ := List.getElem_of_mem hb'
        exact ⟨i, List.mem_range.mpr hi, by simpa [List.getElem?_eq_getElem hi] using z⟩
    rw [e]
    exact ⟨.bl (bs.any id), H, I.kept (t' := tk) (h' := h') (LSm.kept_iter hk), rfl, q⟩
theorem call_isiK {K : PySem.W.Frag} (h : X.K = K) : CallR X (.builtin "isinstance") (rIsi K) := by subst h; exact call_isi
end
theorem mulOkL {i j : Int} (h : -(2 ^ 60) < i ∧ i < 2 ^ 60) : IntMulOk i j := PySem.IntMulOk.of_left (Nat.le_trans ((PySem.intBits_le_iff (m := 60)).mpr (by obtain ⟨a, b⟩ := h; omega)) (by decide))
end L3

namespace L3
open PySem PySem.Spec PyProof.Rows L2
section
variable {prog : Program} {w : World} {A : Around} {R : Result → Shared → Prop} {s : Shared}
variable {elt t0 i0 t1 i1 : Expr} {ifs : List Expr} {scope : Scope} {pos : Pos} {it acc : Value} {env : Env}
end
section
variable {Y : Cx} {pins : List (Addr × Obj)} {D it2 : Addr} {fp2 : List Addr} {tn2 : Nat → Heap → Prop} {J2 : It} {y : Str} {py pos : Pos} {elt t0 i0 i1 : Expr} {ifs : List Expr} {scope : Scope} {g1 : TG} {tt : TT} {te : TE} {Out : List V → L2.St → Hp → Prop} {W : Nat → Nat → List V → L2.St → Hp → Prop} {R : Result → Shared → Prop}
end
section
variable {X : Cx} {pins : List (Addr × Obj)} {σ : L2.St} {H2 : Hp} {s₂ : Shared} {it : Addr} {fp : List Addr} {tn : Nat → Heap → Prop} {J : It} {scope : Scope} {cl : List (Str × Addr)} {N' : List Str} {sub : List (Option Nat)}
end
end L3

namespace L3
open PySem PySem.Spec PyProof.Rows L2
section
variable {X : Cx} {pins : List (Addr × Obj)} {σ : L2.St} {H2 : Hp} {s₂ : Shared} {it : Addr} {fp : List Addr} {tn : Nat → Heap → Prop} {J : It} {scope : Scope} {cl : List (Str × Addr)} {N' : List Str} {sub : List (Option Nat)}
end
section
variable {X : Cx} {scope : Scope} {N' : List Str} {sub : List (Option Nat)} {x y : Str} {px py pos : Pos} {elt i0 i1 : Expr} {ifs : List Expr} {wi wi1 : TI} {g0 g1 : TG} {tt : TT} {te : TE}
end
end L3

namespace L3
open PySem PySem.Spec PyProof.Rows L2
section
variable {X : Cx}
theorem ints_at : ∀ {ns : List Int} {us : List Value}, Vals (ns.map V.int) us → ∀ (i : Nat) (v : Value), us[i]? = some v → ∃ t, v = Value.int ((ns[i]?).getD 0) t
  | [], _, .nil, i, v, e => by cases e
  | n :: ns, _, .cons r t, 0, v, e => by
    obtain ⟨u, rfl⟩ := r
    obtain rfl := Option.some.inj e
    exact ⟨u, rfl⟩
  | n :: ns, _, .cons r t, i + 1, v, e => ints_at t i v e
theorem call_maxL (hcalm : X.calm = true) : CallR X (.builtin "max") (fun xs H Q => ∃ (l : Addr) (ns : List Int), xs = [.ref l] ∧ SqL X.K H l (ns.map V.int) ∧ 0 < ns.length ∧ ∀ M, M ∈ ns → (∀ a ∈ ns, a ≤ M) → Q (.int M) H) := by
  intro pins s σ H xs us Q I r h
  obtain ⟨l, ns, rfl, hl, h0, q⟩ := h
  obtain ⟨u, rfl, rx⟩ := vals1 r
  cases (show u = Value.ref l from rx)
  obtain ⟨vs, rv, pl, _⟩ := I.list hl
  have hl' : s.heap.IsList l vs.toArray := pl.isList
  have hb := ints_at rv
  have hlen : ns.length = vs.length := by rw [← rv.length, List.length_map]
  have hlt : l < s.heap.objs.size := by obtain ⟨_, e, _⟩ := hl'; exact Heap.lt_size e
  have best := argBest_gt (fun i => (ns[i]?).getD 0) (vs.length - 1)
  refine call_max_walk (wpAny_pyIter_list hl' ?_)
  refine ⟨s.heap.objs.size, [s.heap.objs.size, l], [s.heap.objs.size], vs.toArray.size, _, _, fun i j => decide ((ns[i]?).getD 0 > (ns[j]?).getD 0), rfl, Walks.list (A := X.A.in1) (I.ok.hd hcalm) _ l (Nat.ne_of_lt hlt) vs.toArray,
    ⟨⟨_, Heap.get?_push_size _ rfl, rfl, rfl⟩, hl'.push _⟩, ?_, ?_, CmpOf.ints_gt _ (fun i v hP => hb i v (by simpa using hP)), fun v h' tk hP hk => ?_⟩
  · intro b hb
    have sz : (s.heap.push { cls := .type "list_iterator", data := .fields #[.ref l, .int 0 0] }).objs.size = s.heap.objs.size + 1 := Heap.size_push ..
    rcases List.mem_cons.mp hb with z | z
    · rw [z]; show _ < (s.heap.push _).objs.size; rw [sz]; omega
    · rw [List.mem_singleton.mp z]; show _ < (s.heap.push _).objs.size; rw [sz]; exact Nat.lt_succ_of_lt hlt
  · rw [List.size_toArray]; omega
  · rw [List.size_toArray] at hP
    obtain ⟨t, rfl⟩ := hb _ v (by simpa using hP)
    have hi : argBest (fun i j => decide ((ns[i]?).getD 0 > (ns[j]?).getD 0)) (vs.length - 1) < ns.length := by have := best.1; omega
    refine ⟨.int ((ns[argBest (fun i j => decide ((ns[i]?).getD 0 > (ns[j]?).getD 0)) (vs.length - 1)]?).getD 0), H, I.kept (t' := tk) (h' := h') (LSm.kept_iter hk), ⟨t, rfl⟩, q _ ?_ ?_⟩
    · rw [List.getElem?_eq_getElem hi]; exact List.getElem_mem hi
    · intro a ha
      obtain ⟨j, hj, rfl⟩ := List.getElem_of_mem ha
      have := best.2 j (by omega)
      rw [List.getElem?_eq_getElem hj] at this
      exact this
end
end L3

namespace L3
open PySem PySem.Spec PyProof.Rows L2
theorem nv {i j : Int} (h : i ≠ j) : decide (V.int i = V.int j) = false := decide_eq_false fun z => h (V.int.inj z)
theorem Deed.Sm.bd2 {d : Deed} (h : d.Sm) : d.Bd (2 * 10 ^ 30) := h.bd.mono (by decide)
end L3

namespace L3
open PySem PySem.Spec PyProof.Rows L2
section
variable {X : Cx} {pins : List (Addr × Obj)} {σ : L2.St} {H2 : Hp} {s₂ : Shared} {it : Addr} {fp : List Addr} {tn : Nat → Heap → Prop} {J : It} {scope : Scope} {cl : List (Str × Addr)} {N' : List Str} {sub : List (Option Nat)}
theorem comp_runT {C D : Addr} {s₀ : Shared} {tg : Expr} {pos : Pos} {elt iter : Expr} {ifs : List Expr} {g : TG} {tt : TT} {te : TE} {Q : VK} {RR : Value → Addr → Result → Shared → Prop} {W : Nat → Nat → List V → L2.St → Hp → Prop}
    (I : Inv X pins σ H2 s₂) (hcalm : X.calm = true) (T : Turn X.prog X.w X.K tg J fp it tn) (f2 : ∀ b ∈ fp, FpOk X pins H2 b) (hfp : ∀ b ∈ fp, b < s₂.heap.objs.size)
    (hs₀ : ∀ b o, s₂.heap.get? b = some o → s₀.heap.get? b = some o) (hos : s₀.os = s₂.os) (hD : s₂.heap.objs.size ≤ D) (hC : s₂.heap.objs.size ≤ C) (hDC : D ≠ C)
    (hcl1 : ∀ x c, cl.lookup x = some c → X.env.cells.lookup x = some c)
    (hg : PG (cxC X N' scope cl C D fp s₀ H2) tg g) (ht : PIfs (cxC X N' scope cl C D fp s₀ H2) ifs tt) (he : PE (cxC X N' scope cl C D fp s₀ H2) elt te)
    (turn : ∀ i m ys σ' H', W i m ys σ' H' →
      (J.stop i H' ∧ ∀ l, H' l = none → Q (.ref l) (upd H' l (.lst ys))) ∨
      (J.go i H' ∧ ∃ Nn : List V → L2.St → Hp → Prop, (∀ zs σ2 H2, Nn zs σ2 H2 → ∃ m', m' < m ∧ W (i + 1) m' zs σ2 H2) ∧
        ∀ x H2, J.yld i H' x H2 → g x σ' H2 fun σ2 H3 => tt σ2 H3 fun b H4 => if b = true then te σ2 H4 fun y H5 => ys.length < sizeLine ∧ Nn (ys ++ [y]) σ2 H5 else Nn ys σ2 H4))
    (hRR : ∀ (D C : Addr) (oC : Obj) (m : Str → Option Value) (s' : Shared) (Hf : Hp), Inv X (pins ++ [(C, oC)]) σ Hf s' → s'.heap.Ns C m → FpOk X pins Hf C → Q (.ref D) Hf → RR (.ref D) C (.ok .next) s')
    (n : Nat) (s : Shared) (h : ∃ i ys us k σ' H', Inv (cxC X N' scope cl C D fp s₀ H2) pins σ' H' s ∧ tn i s.heap ∧ (∀ b ∈ fp, H' b = none) ∧ H' D = none ∧
      s.heap.get? D = some { cls := .type "list", data := .seq (us : List Value).toArray k } ∧ Vals ys us ∧ ys.length ≤ sizeLine ∧ W i n ys σ' H') :
    codeAny (model X.prog X.w) X.A (.compLoop (.ListComp elt [⟨tg, iter, ifs, 0⟩] scope pos) 0 (.ref it) (.ref D) (compEnvC scope cl C X.env)) (RR (.ref D) C) s := by
  have frsz : ∀ b ∈ frs X.stack, b < s₂.heap.objs.size := fun b hb => by
    rcases List.mem_cons.mp (I.stkSub b hb) with z | z
    · rw [z]; exact I.lt
    · exact Nat.lt_of_not_le fun q => I.nofs q z
  have cells : ∀ x c, cl.lookup x = some c → c < s₂.heap.objs.size := fun x c e => let ⟨v, q⟩ := I.cell x c (hcl1 x c e); q.lt
  have pinsz : ∀ p ∈ X.pn ++ pins, p.1 < s₂.heap.objs.size := fun p hp => Heap.lt_size (I.pin p hp).1
  refine comp_loop (fun n s => ∃ i ys us k σ' H', Inv (cxC X N' scope cl C D fp s₀ H2) pins σ' H' s ∧ tn i s.heap ∧ (∀ b ∈ fp, H' b = none) ∧ H' D = none ∧
      s.heap.get? D = some { cls := .type "list", data := .seq (us : List Value).toArray k } ∧ Vals ys us ∧ ys.length ≤ sizeLine ∧ W i n ys σ' H') ?_ n h
  rintro n s ⟨i, ys, us, k, σ', H', I', st', fr, hn, hy, rv, hz, w'⟩
  have pD : Inv (cxC X N' scope cl C D fp s₀ H2) (pins ++ [(D, { cls := .type "list", data := .seq us.toArray k })]) σ' H' s := I'.pins_of fun p hp => by
    rcases List.mem_append.mp hp with hp | hp
    · exact I'.pin p (List.mem_append_right _ hp)
    · rw [List.mem_singleton.mp hp]
      exact ⟨hy, hn, hDC, fun z => absurd (Nat.lt_of_lt_of_le (frsz _ z) hD) (Nat.lt_irrefl _), fun v z => by cases z⟩
  have fpok : ∀ {H'' : Hp}, (∀ b ∈ fp, H'' b = none) → ∀ b ∈ fp, FpOk (cxC X N' scope cl C D fp s₀ H2) (pins ++ [(D, { cls := .type "list", data := .seq us.toArray k })]) H'' b := fun hz b hb => by
    refine ⟨hz b hb, Nat.ne_of_lt (Nat.lt_of_lt_of_le (hfp b hb) hC), fun z => ?_, .inl (List.mem_cons_of_mem _ hb), fun x c e => (f2 b hb).2.2.2.2.1 x c (hcl1 x c e), fun p hp => ?_⟩
    · rcases List.mem_cons.mp (I.stkSub b z) with z | z
      · exact (f2 b hb).2.1 z
      · exact (f2 b hb).2.2.1 z
    · rcases List.mem_append.mp hp with hp | hp
      · exact (f2 b hb).2.2.2.2.2 p (List.mem_append_left _ hp)
      · rcases List.mem_append.mp hp with hp | hp
        · exact (f2 b hb).2.2.2.2.2 p (List.mem_append_right _ hp)
        · rw [List.mem_singleton.mp hp]
          exact Nat.ne_of_gt (Nat.lt_of_lt_of_le (hfp b hb) hD)
  rcases turn i n ys σ' H' w' with ⟨stop, q⟩ | ⟨go, Nn, hN, step⟩
  · refine thn (T.done (cxC X N' scope cl C D fp s₀ H2) rfl rfl rfl hcalm i _ s σ' H' (fun _ _ => False) pD (fpok fr) st' stop) fun r s1 ⟨hr, I1⟩ => ?_
    subst hr
    have hy1 := (I1.pin (D, { cls := .type "list", data := .seq us.toArray k }) (by simp)).1
    obtain ⟨m, hm, _⟩ := I1.loc
    obtain ⟨oC, es, ep, hoC, hdC, _⟩ := id hm
    obtain ⟨IX, fpc⟩ := comp_fin I hs₀ hos hD hC hDC f2 I1.unpinned hn hy1 rv hz hoC (by intro v z; rw [hdC] at z; cases z)
    exact hRR D C oC m s1 _ IX hm fpc (q D hn)
  · refine thn (T.item (cxC X N' scope cl C D fp s₀ H2) rfl rfl rfl hcalm i _ s σ' H' (fun _ _ => False) pD (fpok fr) st' go) fun r s1 ⟨u, hr, h4⟩ => ?_
    subst hr
    refine thn h4 fun _ s2 ⟨x5, H5, I5, r5, y5, st5, fr5⟩ => ?_
    have I5' := I5.pinned (fpok fr5) (T.obj _ _ st5)
    refine thn (hg _ s2 σ' H5 x5 u _ I5' r5 (step x5 H5 y5)) fun _ s3 ⟨σ6, H6, I6, q6⟩ => ?_
    refine thn (ht _ s3 σ6 H6 _ I6 q6) fun ok s4 ⟨H7, I7, q7⟩ => ?_
    have stay : ∀ {σ7 : L2.St} {H7 : Hp} {s7 : Shared}, Inv (cxC X N' scope cl C D fp s₀ H2) (pins ++ [(D, { cls := .type "list", data := .seq us.toArray k })] ++ pinsAt fp s2.heap) σ7 H7 s7 →
        (∀ b ∈ fp, ∀ o, s2.heap.get? b = some o → s7.heap.get? b = some o) ∧ (∀ b ∈ fp, H7 b = none) ∧ H7 D = none ∧ s7.heap.get? D = some { cls := .type "list", data := .seq us.toArray k } := fun {σ7 H7 s7} I7 => by
      have d := I7.pin (D, { cls := .type "list", data := .seq us.toArray k }) (by simp)
      refine ⟨fun b hb o e => (I7.pin (b, o) (List.mem_append_right _ (List.mem_append_right _ (mem_pinsAt hb e)))).1, fun b hb => ?_, d.2.1, d.1⟩
      obtain ⟨o, e, _⟩ := T.obj _ _ st5 b hb
      exact (I7.pin (b, o) (List.mem_append_right _ (List.mem_append_right _ (mem_pinsAt hb e)))).2.1
    cases ok with
    | false =>
      rw [if_neg (by decide)] at q7 ⊢
      obtain ⟨k1, k2, k3, k4⟩ := stay I7
      obtain ⟨m', hm, w7⟩ := hN ys σ6 H7 q7
      exact ⟨m', hm, i + 1, ys, us, k, σ6, H7, I7.unpinned.unpinned, T.keep _ _ _ st5 k1, k2, k3, k4, rv, hz, w7⟩
    | true =>
      rw [if_pos rfl] at q7 ⊢
      refine thn (he _ s4 σ6 H7 _ I7 q7) fun v s5 ⟨y, H8, I8, r8, hl8, n8⟩ => ?_
      obtain ⟨k1, k2, k3, k4⟩ := stay I8
      refine wpAny_list_append_plain (l := D) ⟨k, k4⟩ (fun h' pl sb => ?_) (by rw [List.size_toArray, ← rv.length]; exact hz)
      obtain ⟨k', e'⟩ := pl
      obtain ⟨m', hm, w8⟩ := hN _ σ6 H8 n8
      refine ⟨m', hm, i + 1, ys ++ [y], us ++ [v], k', σ6, H8, ?_, T.keep _ _ _ (T.keep _ _ _ st5 k1) fun b hb o e => sb.extBut b o (Nat.ne_of_lt (Nat.lt_of_lt_of_le (hfp b hb) hD)) e, k2, k3, ?_, rv.append (.cons r8 .nil), ?_, w8⟩
      · exact (I8.unpinned.unpinned).turned (it := D) (t' := s5.toks) (h' := h') (fun b o hb e => sb.extBut b o hb e) k3 hDC (.inl (by simp)) (fun x c e => Nat.ne_of_lt (Nat.lt_of_lt_of_le (cells x c e) hD)) (fun p hp => Nat.ne_of_lt (Nat.lt_of_lt_of_le (pinsz p hp) hD))
      · rw [e']; simp
      · rw [List.length_append]; exact hl8
theorem comp_blockT {tg : Expr} {pos : Pos} {elt iter : Expr} {ifs : List Expr} {g : TG} {tt : TT} {te : TE} {E : Value → Shared → Prop} {Q : VK} {RR : Value → Addr → Result → Shared → Prop}
    (I : Inv X pins σ H2 s₂) (hcalm : X.calm = true) (T : Turn X.prog X.w X.K tg J fp it tn) (st : tn 0 s₂.heap) (f2 : ∀ b ∈ fp, FpOk X pins H2 b)
    (S : CSc X scope N' sub) (hcl1 : ∀ x c, cl.lookup x = some c → X.env.cells.lookup x = some c) (hcl2 : ∀ y ∈ scope.names, y.2 = .free → ∃ c, cl.lookup y.1 = some c)
    (hg : ∀ C D fp s H, PG (cxC X N' scope cl C D fp s H) tg g) (ht : ∀ C D fp s H, PIfs (cxC X N' scope cl C D fp s H) ifs tt) (he : ∀ C D fp s H, PE (cxC X N' scope cl C D fp s H) elt te)
    (hW : CompW J (capt sub σ) H2 g tt te Q)
    (hRR : ∀ (D C : Addr) (oC : Obj) (m : Str → Option Value) (s' : Shared) (Hf : Hp), Inv X (pins ++ [(C, oC)]) σ Hf s' → s'.heap.Ns C m → FpOk X pins Hf C → Q (.ref D) Hf → RR (.ref D) C (.ok .next) s') :
    wpAny (model X.prog X.w) X.A (newList []) (fun acc s₃ => wpAny (model X.prog X.w) X.A (newFunctionEnv scope X.env.globals cl [] X.env.qual none .none (some X.env)) (fun cenv s₄ =>
      codeAny (model X.prog X.w) X.A (.compStart (.ListComp elt [⟨tg, iter, ifs, 0⟩] scope pos) 0 (.ref it) acc { cenv with scope := relabel scope X.env }) (RR acc cenv.locals) s₄) E s₃) E s₂ := by
  obtain ⟨W, ⟨m0, w0⟩, turn⟩ := hW
  refine wpAny_newObj_type (wpAny_newFunctionEnv S.nocell (by intro y hy; simp at hy) (fun h₁ hns₁ hsb₁ => ?_) S.kind)
  dsimp only at hns₁ hsb₁ ⊢
  have hC : (s₂.heap.push { cls := .type "list", dict := none, data := .seq ([] : List Value).toArray }).objs.size = s₂.heap.objs.size + 1 := Heap.size_push ..
  rw [hC] at hns₁ hsb₁ ⊢
  have hk : ∀ b o, (s₂.heap.push { cls := .type "list", dict := none, data := .seq ([] : List Value).toArray }).get? b = some o → h₁.get? b = some o := fun b o e =>
    hsb₁.extBut b o (by have := Heap.lt_size e; rw [hC] at this; exact Nat.ne_of_lt this) (Heap.get?_push_of_some _ e)
  have hfp : ∀ b ∈ fp, b < s₂.heap.objs.size := fun b hb => by
    obtain ⟨o, e, _⟩ := T.obj _ _ st b hb
    exact Heap.lt_size e
  have I0 := comp_start (tk := s₂.toks + ([] : List (Str × Value)).length) I S hcl1 hcl2 f2 hfp hns₁ hk
  have hD0 : h₁.get? s₂.heap.objs.size = some { cls := .type "list", data := .seq ([] : List Value).toArray 0 } := hk _ _ (Heap.get?_push_size _ rfl)
  have loop : codeAny (model X.prog X.w) X.A (.compLoop (.ListComp elt [⟨tg, iter, ifs, 0⟩] scope pos) 0 (.ref it) (.ref s₂.heap.objs.size) (compEnvC scope cl (s₂.heap.objs.size + 1) X.env)) (RR (.ref s₂.heap.objs.size) (s₂.heap.objs.size + 1)) { s₂ with heap := h₁, toks := s₂.toks + ([] : List (Str × Value)).length } :=
    comp_runT (s₀ := { s₂ with heap := s₂.heap.push { cls := .type "list", dict := none, data := .seq ([] : List Value).toArray } }) (C := s₂.heap.objs.size + 1) (D := s₂.heap.objs.size) I hcalm T f2 hfp (fun b o e => Heap.get?_push_of_some _ e) rfl (Nat.le_refl _) (Nat.le_succ _) (Nat.ne_of_lt (Nat.lt_succ_self _)) hcl1 (hg _ _ _ _ _) (ht _ _ _ _ _) (he _ _ _ _ _) turn hRR m0 _
      ⟨0, [], [], 0, capt sub σ, H2, I0, T.keep _ _ _ st fun b hb o e => hk b o (Heap.get?_push_of_some _ e), fun b hb => (f2 b hb).1, I.hok.fresh (Nat.le_refl _), hD0, .nil, Nat.zero_le _, w0⟩
  exact codeAny_compStart_list loop (T.self _ _ _ _ _ (T.keep _ _ _ st fun b hb o e => hk b o (Heap.get?_push_of_some _ e)) loop)
end
section
variable {X : Cx} {scope : Scope} {N' : List Str} {sub : List (Option Nat)} {tg : Expr} {pos : Pos} {elt iter : Expr} {ifs : List Expr} {wi : TI} {g : TG} {tt : TT} {te : TE}
theorem pe_compT (S : CSc X scope N' sub) (hcalm : X.calm = true) (hi : PI X tg iter wi)
    (hg : ∀ cl C D fp s H, PG (cxC X N' scope cl C D fp s H) tg g) (ht : ∀ cl C D fp s H, PIfs (cxC X N' scope cl C D fp s H) ifs tt) (he : ∀ cl C D fp s H, PE (cxC X N' scope cl C D fp s H) elt te)
    (hs : ∀ x, foldedSetIterable iter X.env x = pure x := by intro _; rfl) : PE X (.ListComp elt [⟨tg, iter, ifs, 0⟩] scope pos) (tComp wi sub g tt te) := by
  intro pins s σ H Q I h
  obtain ⟨cl, hclos, hcl1, hcl2⟩ := S.clos I
  rw [eval_ListComp]
  refine wpAny_comprehension_free (use := none) rfl hs hclos S.kind S.names (thn (hi pins s σ H _ I h) fun v s1 h1 => thn h1 fun itv s2 h2 => ?_)
  obtain ⟨it, fp, tn, J, H2, e, I2, T, st2, f2, hW⟩ := h2
  subst e
  refine comp_blockT (RR := fun acc C => compPost (model X.prog X.w) X.A X.xe none (EP X pins σ Q) acc C) I2 hcalm T st2 f2 S hcl1 hcl2 (hg cl) (ht cl) (he cl) hW ?_
  intro D C oC m s' Hf IX hm fpc q
  refine ⟨m, hm, fun h' sb => ⟨.ref D, Hf, ?_, rfl, q⟩⟩
  exact (IX.unpinned).turned (it := C) (t' := s'.toks) (h' := h') (fun b o hb e => sb.extBut b o hb e) fpc.1 fpc.2.1 fpc.2.2.2.1 fpc.2.2.2.2.1 fpc.2.2.2.2.2
theorem ps_compT {i : Nat} {y : Str} {py spos : Pos} (hN : X.N.Nodup) (hiN : X.N[i]? = some y) (hy : X.env.scope.names.lookup y = some .local) (S : CSc X scope N' sub) (hcalm : X.calm = true) (hi : PI X tg iter wi)
    (hg : ∀ cl C D fp s H, PG (cxC X N' scope cl C D fp s H) tg g) (ht : ∀ cl C D fp s H, PIfs (cxC X N' scope cl C D fp s H) ifs tt) (he : ∀ cl C D fp s H, PE (cxC X N' scope cl C D fp s H) elt te)
    (hsw : swapsWith (.ListComp elt [⟨tg, iter, ifs, 0⟩] scope pos) (some (.Name y py)) spos.line X.env = pure true := by rfl)
    (hs : ∀ x, foldedSetIterable iter X.env x = pure x := by intro _; rfl) : PS X (.Assign [.Name y py] (.ListComp elt [⟨tg, iter, ifs, 0⟩] scope pos) spos) (tAsg (tComp wi sub g tt te) (gName i)) := by
  intro pins s σ H D I h
  obtain ⟨cl, hclos, hcl1, hcl2⟩ := S.clos I
  rw [exec_Assign_Name_used _ _ _ _ hsw]
  refine wpAny_bind (wpAny_standAt (wpAny_bind ?_))
  show wpAny _ X.A (do let _ ← comprehension (.ListComp elt [⟨tg, iter, ifs, 0⟩] scope pos) scope X.env _ (newList []) false (eval iter X.env) (some (assign (.Name y py) X.env))) _ _ s
  refine wpAny_bind (wpAny_mono (wpAny_comprehension_free (use := some (assign (.Name y py) X.env)) (Q := fun _ s' => SP X pins D .next s') rfl hs hclos S.kind S.names
    (thn (hi pins s σ H _ I h) fun v s1 h1 => thn h1 fun itv s2 h2 => ?_)) (fun _ s' hq => wpAny_pure (wpAny_pure hq)) fun _ _ e => e)
  obtain ⟨it, fp, tn, J, H2, e, I2, T, st2, f2, hW⟩ := h2
  subst e
  refine comp_blockT (Q := fun x H1 => gName i x σ H1 D.nx) (RR := fun acc C => compPost (model X.prog X.w) X.A X.xe (some (assign (.Name y py) X.env)) (fun _ s' => SP X pins D .next s') acc C) I2 hcalm T st2 f2 S hcl1 hcl2 (hg cl) (ht cl) (he cl) hW ?_
  intro L C oC m s' Hf IX hm fpc q
  have st := pg_name (X := X) (pos := py) hN hiN (.inl hy) (.inr hy) _ s' σ Hf (.ref L) (.ref L) D.nx IX rfl q
  refine thn st fun _ s'' ⟨σ2, H2, I2', q2⟩ => ?_
  have p := I2'.pin (C, oC) (by simp)
  have hm' : s''.heap.Ns C m := by
    obtain ⟨o, es, ep, e1, r⟩ := hm
    have z := (IX.pin (C, oC) (by simp)).1
    rw [e1] at z; cases z
    exact ⟨_, es, ep, p.1, r⟩
  refine ⟨m, hm', fun h' sb => ⟨σ2, H2, ?_, q2⟩⟩
  exact (I2'.unpinned).turned (it := C) (t' := s''.toks) (h' := h') (fun b o hb e => sb.extBut b o hb e) p.2.1 fpc.2.1 fpc.2.2.2.1 fpc.2.2.2.2.1 fpc.2.2.2.2.2
end
end L3

namespace L3
open PySem PySem.Spec PyProof.Rows L2
section
variable {prog : Program} {w : World} {A : Around} {E : Value → Shared → Prop} {s : Shared}
end
end L3

namespace L3
open PySem PySem.Spec PyProof.Rows L2
section
variable {prog : Program} {w : World} {A : Around} {E : Value → Shared → Prop} {s : Shared}
def SrcAt (h : Heap) (a : Addr) (cn : String) (vs : Array Value) : Prop := (cn = "tuple_iterator" ∧ h.IsTuple a vs) ∨ (cn = "list_iterator" ∧ h.IsList a vs)
theorem SrcAt.iter {a : Addr} {cn : String} {vs : Array Value} {Q : Value → Shared → Prop} (h : SrcAt s.heap a cn vs)
    (q : Q (.ref s.heap.objs.size) { s with heap := s.heap.push { cls := .type cn, data := .fields #[.ref a, .int 0 0] } }) : wpAny (model prog w) A (pyIter (.ref a)) Q E s := by
  rcases h with ⟨rfl, h⟩ | ⟨rfl, h⟩
  · exact wpAny_pyIter_tuple h q
  · exact wpAny_pyIter_list h q
theorem SrcAt.push {h : Heap} {a : Addr} {cn : String} {vs : Array Value} (x : SrcAt h a cn vs) (o : Obj) : SrcAt (h.push o) a cn vs := by
  rcases x with ⟨rfl, x⟩ | ⟨rfl, x⟩
  · exact .inl ⟨rfl, x.push o⟩
  · exact .inr ⟨rfl, x.push o⟩
def zpO (c : String) (a : Addr) : Obj := { cls := .type c, data := .fields #[.ref a, .int 0 0] }
end
end L3

namespace L3
open PySem PySem.Spec PyProof.Rows L2
def SqC (c : Bool) (K : PySem.W.Frag) (H : Hp) (a : Addr) (xs : List V) : Prop := match c with
  | true => SqT K H a xs
  | false => SqL K H a xs
def IterC (c : Bool) (h : Heap) (j a : Addr) (i : Nat) : Prop := match c with
  | true => h.IsTupleIter j a i
  | false => h.IsListIter j a i
def SeqC (c : Bool) (h : Heap) (a : Addr) (vs : Array Value) : Prop := match c with
  | true => h.IsTuple a vs
  | false => h.IsList a vs
def cnC (c : Bool) : String := match c with
  | true => "tuple_iterator"
  | false => "list_iterator"
theorem IterC.at {c : Bool} {h h' : Heap} {j a : Addr} {i : Nat} (x : IterC c h j a i) (k : ∀ o, h.get? j = some o → h'.get? j = some o) : IterC c h' j a i := by
  cases c
  · exact Heap.IsListIter.at x k
  · exact Heap.IsTupleIter.at x k
theorem IterC.obj {c : Bool} {h : Heap} {j a : Addr} {i : Nat} (x : IterC c h j a i) : ∃ o, h.get? j = some o ∧ ∀ v, o.data ≠ .cell v := by
  cases c
  · obtain ⟨o, e, _, d⟩ := x
    exact ⟨o, e, fun v z => by rw [d] at z; cases z⟩
  · obtain ⟨o, e, _, d⟩ := x
    exact ⟨o, e, fun v z => by rw [d] at z; cases z⟩
theorem IterC.mk {c : Bool} {h : Heap} {j a : Addr} (e : h.get? j = some (zpO (cnC c) a)) : IterC c h j a 0 := by
  cases c
  · exact ⟨_, e, rfl, rfl⟩
  · exact ⟨_, e, rfl, rfl⟩
theorem SeqC.src {c : Bool} {h : Heap} {a : Addr} {vs : Array Value} (x : SeqC c h a vs) : SrcAt h a (cnC c) vs := by
  cases c
  · exact .inr ⟨rfl, x⟩
  · exact .inl ⟨rfl, x⟩
theorem SeqC.lt {c : Bool} {h : Heap} {a : Addr} {vs : Array Value} (x : SeqC c h a vs) : a < h.objs.size := by
  cases c
  · obtain ⟨_, e, _⟩ := (show h.IsList a vs from x); exact Heap.lt_size e
  · obtain ⟨_, e, _⟩ := (show h.IsTuple a vs from x); exact Heap.lt_size e
theorem drawsC {prog : Program} {w : World} {A : Around} (hh : A.handled = none) (c : Bool) (j t : Addr) (hne : t ≠ j) (vs : Array Value) :
    Draws prog w A j [j, t] vs.size (fun i v => vs[i]? = some v) (fun i h => IterC c h j t i ∧ SeqC c h t vs) := by
  cases c
  · exact Draws.list hh j t hne vs
  · exact draws_tup hh j t hne vs
theorem draws_endL {prog : Program} {w : World} {A : Around} (hh : A.handled = none) (jt t : Addr) (vs : Array Value) {i : Nat} (hv : vs[i]? = none) :
    Draws prog w A jt [jt, t] i (fun _ _ => True) (fun j h => j = i ∧ h.IsListIter jt t i ∧ h.IsList t vs) where
  live := fun _ _ st => let ⟨o, ho, _⟩ := st.2.1; ⟨o, ho⟩
  frame := fun _ _ _ st hk => ⟨st.1, st.2.1.at (hk jt (by simp)), st.2.2.at (hk t (by simp))⟩
  item := fun j s Q E hj st hQ => absurd st.1 (Nat.ne_of_lt hj)
  done := fun s Q E st hE => wpAny_nextOf_list_end hh st.2.1 st.2.2 hv hE
theorem drawsC_end {prog : Program} {w : World} {A : Around} (hh : A.handled = none) (c : Bool) (j t : Addr) (vs : Array Value) {i : Nat} (hv : vs[i]? = none) :
    Draws prog w A j [j, t] i (fun _ _ => True) (fun k h => k = i ∧ IterC c h j t i ∧ SeqC c h t vs) := by
  cases c
  · exact draws_endL hh j t vs hv
  · exact draws_end hh j t vs hv
theorem inv_seqC {X : Cx} {pins : List (Addr × Obj)} {σ : L2.St} {H : Hp} {s : Shared} {c : Bool} {a : Addr} {xs : List V} (I : Inv X pins σ H s) (h : SqC c X.K H a xs) : ∃ its : List Value, Vals xs its ∧ SeqC c s.heap a its.toArray := by
  cases c
  · obtain ⟨its, r, p, _⟩ := I.list h
    exact ⟨its, r, p.isList⟩
  · obtain ⟨its, r, p, _⟩ := I.tuple h
    exact ⟨its, r, p⟩
theorem inv_seqC_inj {X : Cx} {pins : List (Addr × Obj)} {σ : L2.St} {H : Hp} {s : Shared} {c : Bool} {a : Addr} {xs ys : List V} (I : Inv X pins σ H s) (h : SqC c X.K H a xs) (h' : SqC c X.K H a ys) : xs = ys := by
  cases c
  · exact I.list_inj h h'
  · exact I.tuple_inj h h'
section
variable {X : Cx} {elts : List Expr} {kt : Nat} {pt : Pos}
end
end L3

namespace L3
open PySem PySem.Spec PyProof.Rows L2
section
variable {X : Cx} {elts : List Expr} {kt : Nat} {pt : Pos} {K : PySem.W.Frag}
end
section
variable {K : PySem.W.Frag} {a b : Addr} {c d : Bool} {xs ys : List V} {g : TG} {tt : TT} {te : TE} {tb : TS} {D : Ends} {Q : VK} {σ : L2.St} {H : Hp}
end
section
variable {prog : Program} {w : World} {A : Around} {E : Value → Shared → Prop} {s : Shared}
open AutoSeq1 (wpAny_loadPart')
theorem enum_newC (t : Addr) (c : Bool) (vs : Array Value) :
    Meets (Builtin.«enumerate.__new__» ⟨[.type "enumerate", .ref t], []⟩) (fun _ R s => SeqC c s.heap t vs ∧
      R (.ok (.ret (.ref (s.heap.push (zpO (cnC c) t)).objs.size)))
        { s with heap := (s.heap.push (zpO (cnC c) t)).push { cls := .type "enumerate", data := .fields #[.none, .bool false, .ref s.heap.objs.size, rawInt 0, .none, .none] } }) :=
  .of_wp fun prog w A R s h => by
    obtain ⟨hp, g, d, tk, os⟩ := s; obtain ⟨hT, h⟩ := h
    have hT' : SrcAt (Shared.heap ⟨hp, g, d, tk, os⟩) t (cnC c) vs := hT.src
    obtain ⟨ot, hot⟩ : ∃ o, hp.get? t = some o := by
      cases c
      · obtain ⟨o, e, _⟩ := (show hp.IsList t vs from hT); exact ⟨o, e⟩
      · obtain ⟨o, e, _⟩ := (show hp.IsTuple t vs from hT); exact ⟨o, e⟩
    have hsub := sub_enumerate
    wp_walk using wpAny_loadPart' hot
    refine wpAny_stack_any fun st => wpAny_pure ?_
    split
    · rename_i c' _ _ _ _ _
      cases (c' == Value.type "enumerate") <;> (wp_walk using wpAny_loadPart' hot, SrcAt.iter hT') <;> exact ⟨_, rfl, h⟩
    · wp_walk using wpAny_loadPart' hot, SrcAt.iter hT'
      exact ⟨_, rfl, h⟩
theorem call_enumC {t : Addr} {c : Bool} {vs : Array Value} {Q : Value → Shared → Prop} (ht : SeqC c s.heap t vs)
    (h : ∀ h', IsEnum h' (s.heap.objs.size + 1) s.heap.objs.size 0 .none → IterC c h' s.heap.objs.size t 0 → h'.objs.size = s.heap.objs.size + 2 → (∀ b o, s.heap.get? b = some o → h'.get? b = some o) → Q (.ref (s.heap.objs.size + 1)) { s with heap := h' }) :
    wpAny (model prog w) A (call (.type "enumerate") [.ref t]) Q E s := by
  refine callType_new F.called_enumerate (by decide) (F.typeCall_enumerate_1 _) (F.newCall_enumerate_1 _) (fun obj => F.args_object_init_2 obj _) F.entry_enumerate_new (enum_newC t c vs) ⟨ht, ?_⟩
  have hz : (s.heap.push (zpO (cnC c) t)).objs.size = s.heap.objs.size + 1 := Heap.size_push ..
  show _ ∧ _
  rw [hz]
  have he : IsEnum ((s.heap.push (zpO (cnC c) t)).push { cls := .type "enumerate", data := .fields #[.none, .bool false, .ref s.heap.objs.size, rawInt 0, .none, .none] }) (s.heap.objs.size + 1) s.heap.objs.size 0 .none := by
    have := Heap.get?_push_size (s.heap.push (zpO (cnC c) t)) (o := { cls := .type "enumerate", data := .fields #[.none, .bool false, .ref s.heap.objs.size, rawInt 0, .none, .none] }) rfl
    rw [hz] at this; exact this
  exact ⟨⟨_, he, rfl⟩, h _ he (.mk (Heap.get?_push_of_some _ (Heap.get?_push_size _ rfl))) (by rw [Heap.size_push, Heap.size_push]) fun b o x => Heap.get?_push_of_some _ (Heap.get?_push_of_some _ x)⟩
end
def IteC (c : Bool) (K : PySem.W.Frag) (a : Addr) : It :=
  ⟨fun i H => ∃ xs x, SqC c K H a xs ∧ xs[i]? = some x, fun i H x H' => ∃ T v, H T = none ∧ x = .ref T ∧ H' = upd H T (.tup [.int i, v]) ∧ ∀ xs, SqC c K H a xs → xs[i]? = some v, fun i H => ∃ xs, SqC c K H a xs ∧ xs.length ≤ i⟩
theorem turn_enumC {P : Program} {w : World} {K : PySem.W.Frag} {elts : List Expr} {kt : Nat} {pt : Pos} (c : Bool) (a e jt : Addr) (hej : e ≠ jt) (hae : a ≠ e) (haj : a ≠ jt) :
    Turn P w K (.Tuple elts kt pt) (IteC c K a) [e, jt] e (fun i h => (∃ old, IsEnum h e jt i old) ∧ IterC c h jt a i) where
  mem := by simp
  obj := fun i h st b hb => by
    obtain ⟨⟨old, he⟩, st⟩ := st
    simp only [List.mem_cons, List.mem_nil_iff, or_false] at hb
    rcases hb with rfl | rfl
    · exact ⟨_, he, fun v z => by cases z⟩
    · exact st.obj
  keep := fun i h h' st k => by
    obtain ⟨⟨old, he⟩, st⟩ := st
    exact ⟨⟨old, k e (by simp) _ he⟩, st.at fun o q => k jt (by simp) o q⟩
  item := by
    intro X hP hw hK hc i pins s σ H E I hf st hg
    subst hP hw hK
    obtain ⟨⟨old, he⟩, hit⟩ := st
    obtain ⟨xs, x, hq, hx⟩ := hg
    obtain ⟨its, rv, p⟩ := inv_seqC I hq
    obtain ⟨u, hu, ru⟩ := rv.get hx
    have hlt : i < its.toArray.size := by have := (List.getElem?_eq_some_iff.mp hu).1; simpa using this
    refine wpAny_pyNext_enum_itemD (drawsC (A := X.A.in1) (I.ok.hd hc) c jt a haj its.toArray) he ⟨hit, p⟩ hlt hej (by simp [hej, Ne.symm hae]) fun v h1 tk hv hout hst1 hT hsz hk => ?_
    have hvu : v = u := by
      have e1 : its.toArray[i]? = some v := hv
      have e2 : its.toArray[i]? = some u := by simpa using hu
      rw [e1] at e2; exact Option.some.inj e2
    subst hvu
    refine ⟨_, rfl, wpAny_letOwnedTupleGo_enum (s := { s with heap := h1, toks := tk + 1 }) hout fun h2 he2 hs2 => ?_⟩
    have hk2 : ∀ b o, b ∉ [e, jt] → s.heap.get? b = some o → h2.get? b = some o := fun b o hb q => by
      have n1 : b ≠ e := fun z => hb (by simp [z])
      have n2 : b ≠ jt := fun z => hb (by simp [z])
      exact (hs2.2 b n1).trans (hk b o n1 n2 q)
    have eT : s.heap.objs.size ≠ e := Nat.ne_of_gt (Heap.lt_size he)
    have hT2 : h2.get? s.heap.objs.size = some { cls := .type "tuple", data := .seq #[.int i tk, v] } := (hs2.2 _ eT).trans hT
    have hn : H s.heap.objs.size = none := I.hok.fresh (Nat.le_refl _)
    have I2 : Inv X pins σ (upd H s.heap.objs.size (.tup [.int i, x])) { s with heap := h2, toks := tk + 1 } := turnLaid (s := s) I hk2 hf (Nat.le_refl _) ⟨by show 2 ≤ sizeLine; decide, [.int i tk, v], .cons ⟨_, rfl⟩ (.cons ru .nil), _, hT2, rfl, 0, rfl⟩
    refine ⟨.ref s.heap.objs.size, upd H s.heap.objs.size (.tup [.int i, x]), I2, rfl, ⟨_, x, hn, rfl, rfl, fun ys hy => by rw [inv_seqC_inj I hy hq]; exact hx⟩, ⟨⟨v, by simpa using he2⟩, ?_⟩, fun b hb => ?_⟩
    · exact hst1.1.at fun o q => (hs2.2 jt (Ne.symm hej)).trans q
    · have nb : b ≠ s.heap.objs.size := by
        obtain ⟨oj, hoj, _⟩ := hit.obj
        simp only [List.mem_cons, List.mem_nil_iff, or_false] at hb
        rcases hb with rfl | rfl
        · exact Ne.symm eT
        · exact Nat.ne_of_lt (Heap.lt_size hoj)
      rw [upd_ne nb]; exact (hf b hb).1
  done := by
    intro X hP hw hK hc i pins s σ H E I hf st hg
    subst hP hw hK
    obtain ⟨⟨old, he⟩, hit⟩ := st
    obtain ⟨xs, hq, hx⟩ := hg
    obtain ⟨its, rv, p⟩ := inv_seqC I hq
    have hl := rv.length
    refine wpAny_pyNext_enum_endD (drawsC_end (A := X.A.in1) (I.ok.hd hc) c jt a its.toArray (i := i) (by simp; omega)) he ⟨rfl, hit, p⟩ fun h' eb => ⟨rfl, ?_⟩
    exact turnedL (fp := [e, jt]) (t' := s.toks) I (fun b o hb q => eb b o (fun z => hb (by simp [z])) q) hf
  self := fun _ _ _ _ _ st h => by
    obtain ⟨⟨old, he⟩, _⟩ := st
    exact wpAny_pyIter_enum he h
section
variable {X : Cx} {elts : List Expr} {kt : Nat} {pt : Pos} {K : PySem.W.Frag}
def iEnumC (c : Bool) (K : PySem.W.Frag) (ta : TA) : TI := fun σ H R => ta σ H fun vs H1 => ∃ a xs, vs = [.ref a] ∧ SqC c K H1 a xs ∧ R (IteC c K a) H1
theorem pi_enumC {a : Expr} {ta : TA} {p pos : Pos} (c : Bool) (hK : X.K = K) (hg : Gl X "enumerate") (hm : X.mg "enumerate" = none) (ha : PA X [a] ta) (hs : starEach [a] X.env = [(false, eval a X.env)] := by rfl) :
    PI X (.Tuple elts kt pt) (.Call (.Name "enumerate" p) [a] [] pos) (iEnumC c K ta) := by
  subst hK
  intro pins s σ H R I h
  refine Call_ (ld_blt I hg hm b_enum (PyProof.Rows.callWith_type1 (thn (ha pos pins s σ H _ I h) fun us s1 ⟨vs, H1, I1, r1, q1⟩ => ?_) hs rfl))
  obtain ⟨t, xs, e, hq, q⟩ := q1
  subst e
  obtain ⟨u, rfl, e1⟩ := vals1 r1
  cases (show u = Value.ref t from e1)
  obtain ⟨its, rv, p⟩ := inv_seqC I1 hq
  refine call_enumC p fun h' he hit _ hk => ?_
  refine wpAny_pyIter_enum he ?_
  have lt : t < s1.heap.objs.size := p.lt
  have I2 : Inv X pins σ H1 { s1 with heap := h' } := I1.kept (t' := s1.toks) hk
  refine ⟨s1.heap.objs.size + 1, [s1.heap.objs.size + 1, s1.heap.objs.size], _, _, H1, rfl, I2, turn_enumC c t (s1.heap.objs.size + 1) s1.heap.objs.size (Nat.succ_ne_self _) (Nat.ne_of_lt (Nat.lt_succ_of_lt lt)) (Nat.ne_of_lt lt), ⟨⟨_, he⟩, hit⟩, fun b hb => ?_, q⟩
  simp only [List.mem_cons, List.mem_nil_iff, or_false] at hb
  rcases hb with rfl | rfl
  · exact I1.fpOk (Nat.le_succ _) (I1.hok.fresh (Nat.le_succ _))
  · exact I1.fpOk (Nat.le_refl _) (I1.hok.fresh (Nat.le_refl _))
end
section
variable {K : PySem.W.Frag} {a : Addr} {c : Bool} {xs : List V} {g : TG} {tt : TT} {te : TE} {tb : TS} {D : Ends} {Q : VK} {σ : L2.St} {H : Hp}
theorem for_enumC (Pv : Nat → L2.St → Hp → Prop) (h0 : Pv 0 σ H) (hl : ∀ i σ H, i ≤ xs.length → Pv i σ H → SqC c K H a xs)
    (hs : ∀ i x σ H T, xs[i]? = some x → Pv i σ H → H T = none → g (.ref T) σ (upd H T (.tup [.int i, x])) fun σ2 H2 => tb { D with nx := Pv (i + 1), ct := Pv (i + 1), bk := D.nx } σ2 H2) (hd : ∀ σ H, Pv xs.length σ H → D.nx σ H) :
    ∃ W : Nat → Nat → L2.St → Hp → Prop, (∃ m, W 0 m σ H) ∧ ∀ i m σ H, W i m σ H →
      ((IteC c K a).stop i H ∧ D.nx σ H) ∨ ((IteC c K a).go i H ∧ ∃ N : L2.St → Hp → Prop, (∀ σ' H', N σ' H' → ∃ m', m' < m ∧ W (i + 1) m' σ' H') ∧ ∀ x H', (IteC c K a).yld i H x H' → g x σ H' fun σ2 H2 => tb { D with nx := N, ct := N, bk := D.nx } σ2 H2) := by
  refine ⟨fun i m σ H => m = xs.length - i ∧ i ≤ xs.length ∧ Pv i σ H, ⟨xs.length, by simp, Nat.zero_le _, h0⟩, ?_⟩
  rintro i m σ H ⟨rfl, hi, p⟩
  have q := hl i σ H hi p
  by_cases hlt : i < xs.length
  · refine .inr ⟨⟨xs, xs[i], q, by simp [hlt]⟩, Pv (i + 1), fun σ' H' p' => ⟨xs.length - (i + 1), by omega, rfl, hlt, p'⟩, fun x H' y => ?_⟩
    obtain ⟨T, v, hT, rfl, rfl, y⟩ := y
    exact hs i v σ H T (y xs q) p hT
  · have e : i = xs.length := by omega
    subst e
    exact .inl ⟨⟨xs, q, Nat.le_refl _⟩, hd σ H p⟩
end
end L3

namespace L3
open PySem PySem.Spec PyProof.Rows L2
section
variable {X : Cx}
theorem op_isnotB : OpR X (compareOp .IsNot) (fun x y H Q => ∃ k j : Bool, x = .bl k ∧ y = .bl j ∧ Q (.bl (!(k == j))) H) := by
  intro pins s σ H x y v u Q I rx ry h
  obtain ⟨k, j, rfl, rfl, q⟩ := h
  cases (show v = Value.bool k from rx)
  cases (show u = Value.bool j from ry)
  refine wpAny_isNot_plain (by cases k <;> cases j <;> rfl) (fin_bl I q ?_)
  cases k <;> cases j <;> rfl
variable {K : PySem.W.Frag}
end
def InC (C : Int) (xs : List Int) : Prop := ∀ v ∈ xs, -C ≤ v ∧ v ≤ C
theorem InC.mono {B C : Int} {xs : List Int} (h : InC B xs) (hC : B ≤ C) : InC C xs := fun v hv => by have := h v hv; omega
end L3

namespace L3
open PySem PySem.Spec PyProof.Rows L2
end L3

namespace L3
open PySem PySem.Spec PyProof.Rows L2
theorem vals_ints : ∀ {ns : List Int} {us : List Value}, IntsAre us ns → Vals (ns.map V.int) us := by
  intro ns us h
  induction h with
  | nil => exact .nil
  | cons n t _ ih => exact .cons ⟨t, rfl⟩ ih
section
variable {X : Cx} {K : PySem.W.Frag}
theorem fm_congr {α β : Type} {f g : α → Option β} : ∀ {l : List α}, (∀ x ∈ l, f x = g x) → l.filterMap f = l.filterMap g
  | [], _ => rfl
  | x :: xs, h => by rw [List.filterMap_cons, List.filterMap_cons, h x (by simp), fm_congr fun y hy => h y (List.mem_cons_of_mem _ hy)]
theorem slicePick_rev (its : List Value) : slicePick its.toArray none none (some (-1)) = its.reverse.toArray := by
  have key : ∀ l : List Value, ((List.range l.length).map fun k : Nat => ((l.length : Int) - 1 + -1 * (k : Int)).toNat).filterMap (l.toArray[·]?) = l.reverse := by
    intro l
    refine List.ext_getElem? fun i => ?_
    have e : ((List.range l.length).map fun k : Nat => ((l.length : Int) - 1 + -1 * (k : Int)).toNat).filterMap (l.toArray[·]?) = (List.range l.length).filterMap fun k => l[l.length - 1 - k]? := by
      rw [List.filterMap_map]
      refine fm_congr fun k hk => ?_
      have := List.mem_range.mp hk
      show l.toArray[((l.length : Int) - 1 + -1 * (k : Int)).toNat]? = _
      rw [show ((l.length : Int) - 1 + -1 * (k : Int)).toNat = l.length - 1 - k by omega]; simp
    have e2 : (List.range l.length).filterMap (fun k => l[l.length - 1 - k]?) = (List.range l.length).map fun k => l.getD (l.length - 1 - k) .none := by
      rw [← List.filterMap_eq_map]
      refine fm_congr fun k hk => ?_
      have := List.mem_range.mp hk
      rw [List.getElem?_eq_getElem (by omega)]
      show _ = some (l.getD (l.length - 1 - k) .none)
      rw [List.getD_eq_getElem?_getD, List.getElem?_eq_getElem (by omega)]; rfl
    rw [e, e2, List.getElem?_map]
    by_cases hi : i < l.length
    · rw [List.getElem?_range hi, List.getElem?_reverse hi, List.getElem?_eq_getElem (by omega)]
      show some (l.getD (l.length - 1 - i) .none) = _
      rw [List.getD_eq_getElem?_getD, List.getElem?_eq_getElem (by omega)]; rfl
    · rw [List.getElem?_eq_none (by rw [List.length_range]; omega), List.getElem?_eq_none (by rw [List.length_reverse]; omega)]; rfl
  unfold slicePick
  have b1 : (sliceBounds none none (some (-1)) its.toArray.size).1 = (its.length : Int) - 1 := by simp [sliceBounds]
  have b2 : (sliceBounds none none (some (-1)) its.toArray.size).2.1 = -1 := by simp [sliceBounds]
  have b3 : (sliceBounds none none (some (-1)) its.toArray.size).2.2 = -1 := rfl
  rw [b1, b2, b3]
  have c : sliceRange ((its.length : Int) - 1) (-1) (-1) = (List.range its.length).map fun k : Nat => ((its.length : Int) - 1 + -1 * (k : Int)).toNat := by
    unfold sliceRange
    by_cases h : its.length = 0
    · rw [h]; rfl
    · rw [if_neg (by decide), if_pos (by omega)]
      have : (((its.length : Int) - 1 - -1 - -1 - 1) / (- -1)).toNat = its.length := by
        rw [show ((its.length : Int) - 1 - -1 - -1 - 1) = its.length by omega, show (- -1 : Int) = 1 from rfl, Int.ediv_one]; omega
      dsimp only
      rw [this]
  rw [c, key]
theorem valsRev : ∀ {xs : List V} {us : List Value}, Vals xs us → Vals xs.reverse us.reverse
  | _, _, .nil => .nil
  | _, _, .cons r t => by
    rw [List.reverse_cons, List.reverse_cons]
    exact (valsRev t).append (.cons r .nil)
end
end L3

namespace L3
open PySem PySem.Spec PyProof.Rows L2
structure Wk (prog : Program) (w : World) (A : Around) (T : String) (I : Addr) (n : Nat) (Fr : Addr → Prop) (J : List Value → Shared → Prop) (Fn : List Value → Shared → Prop) : Prop where
  ty : ∀ acc s, J acc s → s.TypeIs (.ref I) T
  self : ∀ acc s (Q : Value → Shared → Prop) (E : Value → Shared → Prop), J acc s → Q (.ref I) s → wpAny (model prog w) A (pyIter (.ref I)) Q E s
  stay : ∀ acc s (S : Addr) (ob : Obj) (h' : Heap), J acc s → Fr S → s.heap.get? S = some ob → ob.cls = .type "list" → (∀ b o, b ≠ S → s.heap.get? b = some o → h'.get? b = some o) → h'.objs.size = s.heap.objs.size → J acc { s with heap := h' }
  next : ∀ acc s (S : Addr) (ob : Obj) (Q : Option Value → Shared → Prop) (E : Value → Shared → Prop), J acc s → Fr S → s.heap.get? S = some ob → ob.cls = .type "list" →
    (∀ v s', acc.length < n → J (acc ++ [v]) s' → s'.heap.get? S = some ob → Q (some v) s') → (∀ s', Fn acc s' → s'.heap.get? S = some ob → Q none s') → wpAny (model prog w) A (pyNext (.ref I)) Q E s
  push : ∀ acc s (o : Obj), J acc s → J acc { s with heap := s.heap.push o }
section
variable {prog : Program} {w : World} {A : Around} {R : Result → Shared → Prop} {T : String} {I : Addr} {n : Nat} {Fr : Addr → Prop} {J Fn : List Value → Shared → Prop}
end
section
variable {prog : Program} {w : World} {A : Around} {E : Value → Shared → Prop} {s : Shared} {T : String} {I : Addr} {n : Nat} {Fr : Addr → Prop} {J Fn : List Value → Shared → Prop}
end
end L3

namespace L3
open PySem PySem.Spec PyProof.Rows L2
section
variable {prog : Program} {w : World} {A : Around} {E : Value → Shared → Prop} {s : Shared}
end
section
variable {X : Cx} {pins : List (Addr × Obj)} {σ : L2.St} {H : Hp} {s : Shared} {h' : Heap}
end
end L3

namespace L3
open PySem PySem.Spec PyProof.Rows L2
section
variable {X : Cx} {pins : List (Addr × Obj)} {σ : L2.St} {H : Hp} {s0 : Shared} {K : PySem.W.Frag}
end
section
variable {X : Cx} {K : PySem.W.Frag} {a : Expr} {ta : TA} {p p2 pos pos2 : Pos}
end
end L3

namespace L3
open PySem PySem.Spec PyProof.Rows L2
section
variable {X : Cx} {K : PySem.W.Frag}
end
def PurseF (H : Hp) (a : Addr) : Prop := ∃ p0 c t : Int, H a = some (.lst [.int p0, .int c, .int t]) ∧ 0 ≤ p0
theorem PurseF.grow {H H' : Hp} {a : Addr} (p : PurseF H a) (g : Grow [] H H') : PurseF H' a := by
  obtain ⟨x, y, z, h, q⟩ := p
  exact ⟨x, y, z, g.keep _ _ (by simp) h, q⟩
theorem PurseF.new {H : Hp} {a l : Addr} (p : PurseF H a) (hl : H l = none) (o : HO) : PurseF (upd H l o) a := p.grow (Grow.new hl o)
theorem PurseF.ne {H : Hp} {a l : Addr} (p : PurseF H a) (h : H l = none) : l ∉ [a] := by
  intro z
  obtain ⟨x, y, w, hz, _⟩ := p
  rw [List.mem_singleton.mp z, hz] at h
  cases h
def sortI (ns : List Int) : List Int := ns.mergeSort fun a b => decide (a ≤ b)
def dupS : List Int → Option Int
  | a :: b :: r => if a = b then some a else dupS (b :: r)
  | _ => none
def levelL (rows : List (List Int)) (l : Nat) : List Int := rows.map fun r => r.getD l 0
def sharedAt (rows : List (List Int)) (l : Nat) : Option Int := dupS (sortI (levelL rows l))
def SharedIs (k : Nat) (rows : List (List Int)) (o : Option (Nat × Int)) : Prop := match o with
  | none => ∀ l, l ≤ k → sharedAt rows l = none
  | some (l, v) => l ≤ k ∧ sharedAt rows l = some v ∧ ∀ j, j < l → sharedAt rows j = none
theorem SharedIs.one {k : Nat} {rows rows' : List (List Int)} {o o' : Option (Nat × Int)} (e : ∀ l, sharedAt rows l = sharedAt rows' l) (h : SharedIs k rows o) (h' : SharedIs k rows' o') : o = o' := by
  cases o with
  | none =>
    cases o' with
    | none => rfl
    | some p =>
      obtain ⟨l, v⟩ := p
      have z := h l h'.1
      rw [e, h'.2.1] at z; cases z
  | some p =>
    obtain ⟨l, v⟩ := p
    cases o' with
    | none =>
      have z := h' l h.1
      rw [← e, h.2.1] at z; cases z
    | some p' =>
      obtain ⟨l', v'⟩ := p'
      obtain ⟨a1, a2, a3⟩ := h
      obtain ⟨b1, b2, b3⟩ := h'
      by_cases c : l < l'
      · have z := b3 l c
        rw [← e, a2] at z; cases z
      · by_cases c2 : l' < l
        · have z := a3 l' c2
          rw [e, b2] at z; cases z
        · have : l = l' := by omega
          subst this
          rw [e, b2] at a2
          cases a2; rfl
def ClashAt (K : PySem.W.Frag) (H : Hp) (x : V) (o : Option (Nat × Int)) : Prop := match o with
  | none => x = .non
  | some (l, v) => ∃ r, x = .ref r ∧ SqT K H r [.int l, .int v]
theorem Grow.clash {m : List Addr} {H H' : Hp} (g : Grow m H H') {K : PySem.W.Frag} {x : V} {o : Option (Nat × Int)} (h : ClashAt K H x o) : ClashAt K H' x o := by
  cases o with
  | none => exact h
  | some p =>
    obtain ⟨l, v⟩ := p
    obtain ⟨r, e, z⟩ := h
    exact ⟨r, e, g.sqT z⟩
theorem cut_pre {xs : List V} {c : Nat} : cutV xs none (some (c : Int)) = xs.take c := by
  unfold cutV
  rw [HT.sIx_none, HT.sIx_nat, List.drop_zero, Nat.sub_zero]
  by_cases h : c ≤ xs.length
  · rw [Nat.min_eq_left h]
  · rw [Nat.min_eq_right (by omega), List.take_of_length_le (by omega), List.take_of_length_le (by omega)]
theorem cut_suf {xs : List V} {c : Nat} : cutV xs (some (c : Int)) none = xs.drop c := by
  unfold cutV
  rw [HT.sIx_none, HT.sIx_nat]
  by_cases h : c ≤ xs.length
  · rw [Nat.min_eq_left h, List.take_of_length_le (by rw [List.length_drop]; exact Nat.le_refl _)]
  · rw [Nat.min_eq_right (by omega), List.drop_eq_nil_of_le (by omega), List.drop_eq_nil_of_le (by omega)]; simp
end L3

namespace L3
open PySem PySem.Spec PyProof.Rows L2
mutual
inductive Dq (K : PySem.W.Frag) (H : Hp) : V → PyData → Prop
  | non : Dq K H .non .none
  | bl (b : Bool) : Dq K H (.bl b) (.bool b)
  | int (i : Int) : Dq K H (.int i) (.int i)
  | str (x : Str) : Dq K H (.str x) (.str x)
  | tup {a : Addr} {xs : List V} {ds : List PyData} : SqT K H a xs → DqAll K H xs ds → Dq K H (.ref a) (.tuple ds)
  | lst {a : Addr} {xs : List V} {ds : List PyData} : SqL K H a xs → DqAll K H xs ds → Dq K H (.ref a) (.list ds)
inductive DqAll (K : PySem.W.Frag) (H : Hp) : List V → List PyData → Prop
  | nil : DqAll K H [] []
  | cons {x : V} {xs : List V} {d : PyData} {ds : List PyData} : Dq K H x d → DqAll K H xs ds → DqAll K H (x :: xs) (d :: ds)
end
mutual
theorem Dat.dq {K : PySem.W.Frag} {H : Hp} : ∀ {x : V} {d : PyData}, Dat K H x d → Dq K H x d
  | _, _, .non => .non
  | _, _, .bl b => .bl b
  | _, _, .int i => .int i
  | _, _, .tup h t => .tup h (DatAll.dq t)
  | _, _, .lst h t => .lst h (DatAll.dq t)
theorem DatAll.dq {K : PySem.W.Frag} {H : Hp} : ∀ {xs : List V} {ds : List PyData}, DatAll K H xs ds → DqAll K H xs ds
  | _, _, .nil => .nil
  | _, _, .cons h t => .cons (Dat.dq h) (DatAll.dq t)
end
theorem DqAll.len {K : PySem.W.Frag} {H : Hp} : ∀ {xs : List V} {ds : List PyData}, DqAll K H xs ds → xs.length = ds.length
  | _, _, .nil => rfl
  | _, _, .cons _ t => congrArg (· + 1) (DqAll.len t)
theorem DqAll.app {K : PySem.W.Frag} {H : Hp} : ∀ {xs : List V} {ds : List PyData} {ys : List V} {es : List PyData}, DqAll K H xs ds → DqAll K H ys es → DqAll K H (xs ++ ys) (ds ++ es)
  | _, _, _, _, .nil, h => h
  | _, _, _, _, .cons h t, g => .cons h (DqAll.app t g)
theorem all_true (n : Nat) : (List.range n).all (fun _ => true) = true := List.all_eq_true.mpr fun _ _ => rfl
section
variable {X : Cx} {pins : List (Addr × Obj)} {σ : L2.St} {H : Hp} {s : Shared}
mutual
theorem dq_eq (I : Inv X pins σ H s) : ∀ {d : PyData} {x y : V} {u v : Value} {A : Around}, Dq X.K H x d → Dq X.K H y d → RelV x u → RelV y v → A.units + d.depth < cLine → SeqAt.EqAt A s u v true
  | _, _, y, u, v, A, .non, hy, ru, rv, _ => by
    cases hy
    cases (show u = Value.none from ru)
    cases (show v = Value.none from rv)
    exact SeqAt.EqAt.same _
  | _, _, y, u, v, A, .bl b, hy, ru, rv, _ => by
    cases hy
    cases (show u = Value.bool b from ru)
    cases (show v = Value.bool b from rv)
    exact SeqAt.EqAt.same _
  | _, _, y, u, v, A, .int i, hy, ru, rv, _ => by
    cases hy
    obtain ⟨t, rfl⟩ := ru
    obtain ⟨t', rfl⟩ := rv
    have z := SeqAt.EqAt.int_int (A := A) (s := s) i t i t'
    rw [beq_self_eq_true] at z
    exact z
  | _, _, y, u, v, A, .str x, hy, ru, rv, _ => by
    cases hy
    obtain ⟨t, rfl⟩ := ru
    obtain ⟨t', rfl⟩ := rv
    have z := SeqAt.EqAt.str_str (A := A) (s := s) x t x t'
    rw [beq_self_eq_true] at z
    exact z
  | _, _, y, u, v, A, .tup (a := a) (xs := xs) (ds := ds) hs ha, hy, ru, rv, hu => by
    cases hy with
    | tup hs' ha' =>
      rename_i a' xs'
      cases (show u = Value.ref a from ru)
      cases (show v = Value.ref a' from rv)
      obtain ⟨us, r1, t1, _⟩ := I.tuple hs
      obtain ⟨ws, r2, t2, _⟩ := I.tuple hs'
      have hd : A.units + (PyData.depthAll ds + 1) < cLine := hu
      by_cases e : a = a'
      · subst e; exact SeqAt.EqAt.same _
      · have l1 := ha.len
        have l2 := ha'.len
        have q := SeqAt.RcAt.tuples (e := fun _ => true) (isTuple_of t1) (isTuple_of t2) (by omega) (dqs_eq I ha ha' r1 r2 (A := A.in1) (by show A.units + 1 + PyData.depthAll ds < cLine; omega))
        rw [all_true, Bool.true_and, List.size_toArray, List.size_toArray, ← r1.length, ← r2.length, l1, l2, beq_self_eq_true] at q
        exact SeqAt.EqAt.of_refs e q
  | _, _, y, u, v, A, .lst (a := a) (xs := xs) (ds := ds) hs ha, hy, ru, rv, hu => by
    cases hy with
    | lst hs' ha' =>
      rename_i a' xs'
      cases (show u = Value.ref a from ru)
      cases (show v = Value.ref a' from rv)
      obtain ⟨us, r1, t1, _⟩ := I.list hs
      obtain ⟨ws, r2, t2, _⟩ := I.list hs'
      have hd : A.units + (PyData.depthAll ds + 1) < cLine := hu
      by_cases e : a = a'
      · subst e; exact SeqAt.EqAt.same _
      · have l1 := ha.len
        have l2 := ha'.len
        have q := SeqAt.RcAt.lists (e := fun _ => true) t1.isList t2.isList (by rw [List.size_toArray, List.size_toArray, ← r1.length, ← r2.length, l1, l2]) (by omega) (dqs_eq I ha ha' r1 r2 (A := A.in1) (by show A.units + 1 + PyData.depthAll ds < cLine; omega))
        rw [all_true] at q
        exact SeqAt.EqAt.of_refs e q
theorem dqs_eq (I : Inv X pins σ H s) : ∀ {ds : List PyData} {xs ys : List V} {us vs : List Value} {A : Around}, DqAll X.K H xs ds → DqAll X.K H ys ds → Vals xs us → Vals ys vs → A.units + PyData.depthAll ds < cLine →
    ∀ j (h1 : j < us.toArray.size) (h2 : j < vs.toArray.size), SeqAt.EqAt A s us.toArray[j] vs.toArray[j] true
  | _, _, _, _, _, A, .nil, hy, ru, rv, _ => fun j h1 _ => by
    cases ru
    exact absurd h1 (Nat.not_lt_zero j)
  | _, _, _, _, _, A, .cons (d := d) (ds := ds) hx tx, hy, ru, rv, hd => fun j h1 h2 => by
    cases hy with
    | cons hy ty =>
      cases ru with
      | cons r1 rr1 =>
        cases rv with
        | cons r2 rr2 =>
          have hd' : A.units + max d.depth (PyData.depthAll ds) < cLine := hd
          cases j with
          | zero => simpa using dq_eq I hx hy r1 r2 (A := A) (by omega)
          | succ j =>
            have z := dqs_eq I tx ty rr1 rr2 (A := A) (by omega) j (by simpa using h1) (by simpa using h2)
            simpa using z
end
variable {K : PySem.W.Frag}
end
end L3

namespace L3
open PySem PySem.Spec PyProof.Rows L2
def xN (k st a : Nat) : Nat := a ^^^ 2 ^ (k - st)
def nN (k st a : Nat) : Nat := (numsL k a st).toNat
def lN (k h g n : Nat) : Nat := (lineL k h g n).toNat
structure OneF (k st a : Nat) : Prop where
  sw : swI k st a = numsL k a st
  num : numsL k a st = (nN k st a : Int)
  lt : nN k st a < 2 ^ (k - 1)
  nx : nN k st (xN k st a) = nN k st a
  xx : xN k st (xN k st a) = a
  xne : xN k st a ≠ a
  xlt : xN k st a < 2 ^ k
  w0 : wfI k st a (Builtin.bitXor (figI k st a) 0) = (a : Int)
  w1 : wfI k st a (Builtin.bitXor (figI k st a) 1) = (xN k st a : Int)
  c1 : Builtin.bitXor (figI k st a) (figI k st (xN k st a)) = 1
  c0 : Builtin.bitXor (figI k st a) (figI k st a) = 0
  b0 : Builtin.bitXor (figI k st a) 0 = 0 ∨ Builtin.bitXor (figI k st a) 0 = 1
  b1 : Builtin.bitXor (figI k st a) 1 = 0 ∨ Builtin.bitXor (figI k st a) 1 = 1
def plOf (gs : List Nat) : List (Nat × Nat) := (List.range gs.length).map fun h => (h, gs.getD h 0)
def SidesOk (k : Nat) (gs : List Nat) : Prop := gs.length = 2 ^ k ∧ ∀ g ∈ gs, g < 2 ^ k
theorem SidesOk.get {k : Nat} {gs : List Nat} (h : SidesOk k gs) {i : Nat} (hi : i < 2 ^ k) : gs.getD i 0 < 2 ^ k := by
  rw [List.getD_eq_getElem?_getD, List.getElem?_eq_getElem (by rw [h.1]; exact hi)]
  exact h.2 _ (List.getElem_mem _)
def crossI (k st : Nat) (q : Nat × Nat) : Int := Builtin.bitXor (figI k st (lineL k q.1 q.2 (st - 1))) (figI k st (lineL k q.1 q.2 st))
def marksF (k st : Nat) (m : List Int) (q : Nat × Nat) : List Int := m.set (nN k st (lN k q.1 q.2 st)) (crossI k st q)
def marksR (k st : Nat) (pl : List (Nat × Nat)) : List Int := pl.foldl (marksF k st) (List.replicate (2 ^ k / 2) 0)
def setsL (k : Nat) (gs : List Nat) : List (List Int) := (List.range k).map fun n => marksR k (n + 1) (plOf gs)
end L3

namespace L3
open PySem PySem.Spec PyProof.Rows L2
section
variable {X : Cx} {a : Expr} {ta : TA} {p p2 pos pos2 : Pos}
def tRngV (ta : TA) : TE := fun σ H Q => ta σ H fun vs H1 => ∃ n : Nat, vs = [.int n] ∧ n ≤ 1000 ∧ ∀ l, H1 l = none → Q (.ref l) (upd H1 l (.lst ((List.range n).map fun i : Nat => V.int i)))
theorem pe_listRange (hc : X.calm = true) (hgl : Gl X "list") (hml : X.mg "list" = none) (hgr : Gl X "range") (hmr : X.mg "range" = none) (ha : PA X [a] ta)
    (hs : starEach [a] X.env = [(false, eval a X.env)] := by rfl) (hs2 : starEach [(.Call (.Name "range" p2) [a] [] pos2 : Expr)] X.env = [(false, eval (.Call (.Name "range" p2) [a] [] pos2) X.env)] := by rfl) :
    PE X (.Call (.Name "list" p) [.Call (.Name "range" p2) [a] [] pos2] [] pos) (tRngV ta) := by
  intro pins s σ H Q I h
  refine wpAny_Call_Name_kw (ld_blt I hgl hml b_list (PyProof.Rows.callWith_type1 ?_ hs2 rfl))
  rw [hs2]
  show wpAny _ _ (spliced [(false, eval (.Call (.Name "range" p2) [a] [] pos2) X.env)]) _ _ s
  refine Calls.spliced_cons ?_
  refine Call_ (ld_blt I hgr hmr boot_range (PyProof.Rows.callWith_type1 (thn (ha pos2 pins s σ H _ I h) fun us s1 ⟨vs, H1, I1, r1, q1⟩ => ?_) hs rfl))
  obtain ⟨n, e, hn, q⟩ := q1
  subst e
  obtain ⟨u, rfl, e1⟩ := vals1 r1
  obtain ⟨t, rfl⟩ := e1
  refine call_range_1 (Calls.spliced_nil ?_)
  have I2 : Inv X pins σ H1 { s1 with heap := s1.heap.push { cls := .type "range", data := .fields #[.int 0 s1.toks, .int n t, .int 1 (s1.toks + 1)] }, toks := s1.toks + 1 + 1 } := I1.kept fun b o e => Heap.get?_push_of_some _ e
  refine call_list_range (n := n) (I.ok.hd hc) (IsRange.new ..) (small_one (by omega) (by omega) (by omega) (by omega)) (by rw [rangeSize_one]; split <;> omega) (by omega) fun h' tk acc c' hk hS hacc => ?_
  have hvr : Vals ((List.range n).map fun i : Nat => V.int i) acc.toList := by
    have hlen : acc.toList.length = n := by rw [Array.length_toList]; exact hacc.1
    have key : ∀ (m : Nat) (l : List Value) (j : Nat), l.length = m → (∀ i v, l[i]? = some v → ∃ t, v = Value.int ((j + i : Nat) : Int) t) → Vals ((List.range' j m).map fun i : Nat => V.int i) l := by
      intro m
      induction m with
      | zero =>
        intro l j hl _
        rw [List.length_eq_zero_iff.mp hl]
        exact .nil
      | succ m ih =>
        intro l j hl hv
        match l, hl, hv with
        | x :: l, hl, hv =>
          refine .cons ?_ (ih l (j + 1) (by simpa using hl) fun i v h => ?_)
          · obtain ⟨t, e⟩ := hv 0 x rfl
            exact ⟨t, e⟩
          · obtain ⟨t, e⟩ := hv (i + 1) v (by simpa using h)
            exact ⟨t, by rw [e, show j + (i + 1) = j + 1 + i by omega]⟩
    rw [List.range_eq_range']
    refine key n acc.toList 0 hlen fun i v h => ?_
    obtain ⟨t, e⟩ := hacc.2 i v (by rw [← h]; exact (Array.getElem?_toList).symm)
    exact ⟨t, by rw [e]; congr 1; omega⟩
  refine ⟨.ref (s1.heap.push { cls := .type "range", data := .fields #[.int 0 s1.toks, .int n t, .int 1 (s1.toks + 1)] }).objs.size, _, I2.laid (t' := tk) hk (Nat.le_refl _) (show ObjOk X.prog X.w _ h' _ (.lst ((List.range n).map fun i : Nat => V.int i)) from ⟨by rw [List.length_map, List.length_range]; exact Nat.le_of_lt (small1000 hn), acc.toList, c', hvr, by simpa using hS⟩), rfl, q _ (I2.hok.fresh (Nat.le_refl _))⟩
end
end L3

namespace L3
open PySem PySem.Spec PyProof.Rows L2
def natsV (gs : List Nat) : List V := gs.map fun g : Nat => V.int g
def AnsAt (K : PySem.W.Frag) (H : Hp) (x : V) (k : Nat) (gs : List Nat) (o : Option (Nat × Int)) : Prop := ∃ (r : Addr) (s : Str) (y : V), x = .ref r ∧ SqT K H r [.str s, y] ∧ match o with
  | none => s = "settings" ∧ RowsAt K H y (setsL k gs)
  | some (l, v) => s = "clash" ∧ ∃ c, y = .ref c ∧ SqT K H c [.int l, .int v]
theorem Grow.ans {m : List Addr} {H H' : Hp} (g : Grow m H H') {K : PySem.W.Frag} {x : V} {k : Nat} {gs : List Nat} {o : Option (Nat × Int)} (h : AnsAt K H x k gs o) : AnsAt K H' x k gs o := by
  obtain ⟨r, s, y, e, z, w⟩ := h
  refine ⟨r, s, y, e, g.sqT z, ?_⟩
  cases o with
  | none => exact ⟨w.1, g.rows w.2⟩
  | some p =>
    obtain ⟨l, v⟩ := p
    obtain ⟨w1, c, e, z⟩ := w
    exact ⟨w1, c, e, g.sqT z⟩
theorem AllR.of_get {α : Type} {R : V → α → Prop} : ∀ {xs : List V} {ks : List α}, xs.length = ks.length → (∀ (i : Nat) (x : V), xs[i]? = some x → ∃ k, ks[i]? = some k ∧ R x k) → AllR R xs ks
  | [], [], _, _ => trivial
  | x :: xs, k :: ks, hl, h => by
    refine ⟨?_, AllR.of_get (by simpa using hl) fun i y hy => by simpa using h (i + 1) y (by simpa using hy)⟩
    obtain ⟨k', e, r⟩ := h 0 x rfl
    cases e
    exact r
  | [], _ :: _, hl, _ => by simp at hl
  | _ :: _, [], hl, _ => by simp at hl
theorem SidesOk.set {k : Nat} {gs : List Nat} (h : SidesOk k gs) {j n : Nat} (hn : n < 2 ^ k) : SidesOk k (gs.set j n) := by
  refine ⟨by rw [List.length_set, h.1], fun g hg => ?_⟩
  rcases List.mem_or_eq_of_mem_set hg with z | rfl
  · exact h.2 g z
  · exact hn
end L3

namespace L3
open PySem PySem.Spec PyProof.Rows L2
section
variable {prog : Program} {w : World} {A : Around} {E : Value → Shared → Prop} {s : Shared}
theorem coll_tup {l : Addr} {us : List Value} {Q : List Value → Shared → Prop} (tu : s.heap.IsTuple l us.toArray) (hu : us.length ≤ sizeLine)
    (q : Q us { s with heap := (s.heap.push (seqObj "list" #[] 0)).update s.heap.objs.size (Obj.mapSeq (· ++ us.toArray)) }) : wpAny (model prog w) A (collect (.ref l)) Q E s := by
  obtain ⟨ob, eo, ec, m, ed⟩ := id tu
  have eo2 : (s.heap.push (seqObj "list" #[] 0)).get? l = some ob := Heap.get?_push_of_some _ eo
  unfold collect
  refine wpAny_bind (wpAny_runValue (codeAny_builtin entry_proto_collect' (show wpAny _ _ (do again (.builtin "list.__iadd__" ⟨[← newList [], .ref l], []⟩)) _ _ s from ?_)))
  refine wpAny_bind (wpAny_newList (wpAny_pure ⟨Code.quiet_builtin _ (by decide +kernel), codeAny_builtin entry_list_iadd' (show wpAny _ _ (Builtin.List.listExtendWith (.ref s.heap.objs.size) (.ref l) (.ref s.heap.objs.size)) _ _ { s with heap := s.heap.push (seqObj "list" #[] 0) } from ?_)⟩))
  unfold Builtin.List.listExtendWith
  refine wpAny_bind (wpAny_typeOf (T := "tuple") ⟨ob, eo2, ec⟩ ?_)
  have k1 : (Value.type "tuple" == Value.type "tuple") = true := rfl
  rw [if_pos (by simp [k1])]
  refine wpAny_bind (listItems_at eo2 ed (wpAny_bind (listItems_at (xs := #[]) (n := 0) (Heap.get?_push_size _ rfl) rfl ?_)))
  rw [if_neg (by simp)]
  refine wpAny_bind (listUpdate_at (xs := #[]) (n := 0) (Heap.get?_push_size _ rfl) rfl (wpAny_pure ?_) (Nat.zero_le _) (by show (#[] ++ us.toArray).size ≤ sizeLine + 1; simp only [Array.size_append, List.size_toArray, List.length_nil]; omega))
  refine wpAny_bind (wpAny_load (get?_update_seq (Heap.get?_push_size _ rfl) _) ?_)
  show wpAny _ _ (pure ((#[] : Array Value) ++ us.toArray).toList) Q E _
  rw [show ((#[] : Array Value) ++ us.toArray).toList = us by simp]
  exact wpAny_pure q
theorem sorted_tup {l : Addr} {us : List Value} {ns : List Int} {Q : Value → Shared → Prop} (tu : s.heap.IsTuple l us.toArray) (iu : IntsAre us ns) (u64 : us.length < 64)
    (q : ∀ (out : Array Value) (ms : List Int), IntsAre out.toList ms → ms.Perm ns → ms.Pairwise (· ≤ ·) → Q (.ref (s.heap.objs.size + 1)) { s with heap := sortedAll s.heap us out }) :
    wpAny (model prog w) A (call (.builtin "sorted") [.ref l]) Q E s := by
  refine Calls.call_function_entry kind_sorted plain_sorted entry_sorted (args_sorted1 _) ?_
  unfold Builtin.«sorted»
  refine wpAny_bind (m := checkCount "sorted" 1 1 _) (wpAny_pure (wpAny_bind (coll_tup tu (by rw [sizeLine_eq]; omega) (wpAny_bind (wpAny_newList ?_)))))
  have e1 : ((s.heap.push (seqObj "list" #[] 0)).update s.heap.objs.size (Obj.mapSeq (· ++ us.toArray))).objs.size = s.heap.objs.size + 1 := by rw [Heap.size_update, size_push']
  have e2 : (((s.heap.push (seqObj "list" #[] 0)).update s.heap.objs.size (Obj.mapSeq (· ++ us.toArray))).push (seqObj "list" us.toArray 0)).get? (s.heap.objs.size + 1) = some (seqObj "list" us.toArray 0) := by
    rw [← e1]; exact Heap.get?_push_size _ rfl
  show wpAny _ _ _ _ _ { s with heap := ((s.heap.push (seqObj "list" #[] 0)).update s.heap.objs.size (Obj.mapSeq (· ++ us.toArray))).push (seqObj "list" us.toArray 0) }
  rw [e1]
  refine wpAny_bind (wpAny_holding (wpAny_call_entry slot_list_sort ⟨_, e2, rfl⟩ entry_list_sort (list_sort_tree e2 iu u64 fun out ms b1 b2 b3 => ⟨_, rfl, wpAny_pure ⟨_, rfl, q out ms b1 b2 b3⟩⟩) (args_list_sort _)))
end
section
variable {X : Cx} {K : PySem.W.Frag}
theorem call_sortedT (hK : X.K = K) : CallR X (.builtin "sorted") (fun xs H Q => ∃ (l : Addr) (ns : List Int), xs = [.ref l] ∧ SqT K H l (ns.map V.int) ∧ ns.length < 64 ∧ ∀ (p : Addr) (ms : List Int), H p = none → ms.Perm ns → ms.Pairwise (· ≤ ·) → Q (.ref p) (upd H p (.lst (ms.map V.int)))) := by
  subst hK
  intro pins s σ H xs us Q I r h
  obtain ⟨l, ns, rfl, hl, h64, q⟩ := h
  obtain ⟨u, rfl, rx⟩ := vals1 r
  cases (show u = Value.ref l from rx)
  obtain ⟨vs, rv, pl, hz⟩ := I.tuple hl
  have hlen := rv.length
  rw [List.length_map] at hlen hz
  refine sorted_tup pl (intsAre_of rv) (by omega) fun out ms i1 i2 i3 => ?_
  obtain ⟨e, he⟩ := sortedAll_at s.heap vs out
  have hn : H (s.heap.objs.size + 1) = none := I.hok.fresh (Nat.le_succ _)
  have rl := vals_ints i1
  refine ⟨.ref (s.heap.objs.size + 1), _, ?_, rfl, q _ ms hn i2 i3⟩
  refine I.laid (t' := s.toks) (fun b o q => sortedAll_old q) (Nat.le_succ _) (show ObjOk X.prog X.w _ _ _ (.lst (ms.map V.int)) from ⟨by rw [List.length_map, i2.length_eq]; exact hz, out.toList, e, rl, he⟩)
end
end L3

namespace L3
open PySem PySem.Spec PyProof.Rows L2
section
variable {prog : Program} {w : World} {A : Around} {E : Value → Shared → Prop} {s : Shared}
theorem rev_pick (its : List Value) : ((List.range its.length).filterMap fun (k : Nat) => its.toArray[((its.length : Int) - 1 + (k : Int) * (-1)).toNat]?).toArray = its.reverse.toArray := by
  have e := slicePick_rev its
  unfold slicePick at e
  have b1 : (sliceBounds none none (some (-1)) its.toArray.size).1 = (its.length : Int) - 1 := by simp [sliceBounds]
  have b2 : (sliceBounds none none (some (-1)) its.toArray.size).2.1 = -1 := by simp [sliceBounds]
  have b3 : (sliceBounds none none (some (-1)) its.toArray.size).2.2 = -1 := rfl
  rw [b1, b2, b3] at e
  have c : sliceRange ((its.length : Int) - 1) (-1) (-1) = (List.range its.length).map fun k : Nat => ((its.length : Int) - 1 + -1 * (k : Int)).toNat := by
    unfold sliceRange
    by_cases h : its.length = 0
    · rw [h]; rfl
    · rw [if_neg (by decide), if_pos (by omega)]
      have : (((its.length : Int) - 1 - -1 - -1 - 1) / (- -1)).toNat = its.length := by
        rw [show ((its.length : Int) - 1 - -1 - -1 - 1) = its.length by omega, show (- -1 : Int) = 1 from rfl, Int.ediv_one]; omega
      dsimp only
      rw [this]
  rw [c, List.filterMap_map] at e
  rw [← e]
  congr 1
  refine fm_congr fun k _ => ?_
  show its.toArray[((its.length : Int) - 1 + (k : Int) * (-1)).toNat]? = its.toArray[((its.length : Int) - 1 + -1 * (k : Int)).toNat]?
  rw [Int.mul_comm]
theorem applied_rev {sl : Addr} {vs : Value} {n : Nat} {Q : Int × Int × Nat → Shared → Prop} (hs : s.heap.IsSliceOf sl .none .none vs) (ps : IsPart vs (some (-1))) (q : Q ((n : Int) - 1, -1, n) s) :
    wpAny (model prog w) A (Builtin.Slice.sliceApplied (.ref sl) (pure (n : Int))) Q E s := by
  obtain ⟨ob, e1, e2, e3⟩ := id hs
  unfold Builtin.Slice.sliceApplied Builtin.Slice.sliceFields
  refine wpAny_bind (wpAny_bind (wpAny_field e1 e3 (x := .none) rfl (wpAny_bind (wpAny_field e1 e3 (x := .none) rfl (wpAny_bind (wpAny_field e1 e3 (x := vs) rfl (wpAny_pure (wpAny_bind (HT.slicePart_ ps ?_)))))))))
  show wpAny _ _ (if ((-1 : Int) == 0) = true then _ else _) _ _ s
  rw [if_neg (by decide)]
  refine wpAny_bind (HT.slicePart_ .none (wpAny_bind (HT.slicePart_ .none (wpAny_bind (wpAny_pure ?_)))))
  have e4 : Builtin.Slice.slicePlaces ((n : Int) - 1) (-1) (-1) = n := by
    unfold Builtin.Slice.slicePlaces
    simp only [show ¬ ((-1 : Int) > 0) by decide, if_false, show (- -1 : Int) = 1 from rfl, Int.ediv_one]
    split <;> omega
  show wpAny _ _ (pure ((n : Int) - 1, (-1 : Int), Builtin.Slice.slicePlaces ((n : Int) - 1) (-1) (-1))) _ _ s
  rw [e4]
  exact wpAny_pure q
theorem item_rev {t sl : Addr} {its : List Value} {vs : Value} {Q : Value → Shared → Prop} (ht : s.heap.IsTuple t its.toArray) (hs : s.heap.IsSliceOf sl .none .none vs) (ps : IsPart vs (some (-1)))
    (q : Q (.ref s.heap.objs.size) { s with heap := s.heap.push { cls := .type "tuple", data := .seq its.reverse.toArray } }) (hz : its.length ≤ sizeLine) : wpAny (model prog w) A (getItem (.ref t) (.ref sl)) Q E s := by
  obtain ⟨ob, e1, e2, e3⟩ := id hs
  have ty : s.TypeIs (.ref sl) "slice" := ⟨ob, e1, e2⟩
  have hk : sizeOk (.seq its.reverse.toArray) := by
    show its.reverse.toArray.size ≤ sizeLine
    rw [List.size_toArray, List.length_reverse]; exact hz
  unfold getItem
  try with_reducible refine wpAny_holding ?_
  first | refine wpAny_bind (wpAny_pure ?_) | skip
  refine wpAny_bind (wpAny_sequenceKey ht.typeIs (by decide) (wpAny_bind (wpAny_callSpecial?_slot (name := Str.ofString "__getitem__") ht.typeIs slot_tuple_getitem (wpAny_call_entry slot_tuple_getitem ht.typeIs entry_tuple_getitem ?_ (args_tuple_getitem _ _)))))
  show wpAny _ _ (Builtin.Tuple.tupleItemsOf (.ref t) >>= _) _ _ s
  refine wpAny_bind (tupleItemsOf_ ht (wpAny_bind (wpAny_typeOf ty ?_)))
  rw [if_pos (by decide)]
  refine wpAny_bind (applied_rev hs ps ?_)
  show wpAny _ _ (if (((its.toArray.size : Nat) : Int) - 1 == 0 && (-1 : Int) == 1 && its.toArray.size == its.toArray.size) = true then _ else _) _ _ s
  rw [if_neg (by rw [show ((-1 : Int) == 1) = false from rfl, Bool.and_false, Bool.false_and]; exact Bool.false_ne_true)]
  have e := rev_pick its
  rw [List.size_toArray, e]
  first
    | exact wpAny_bind (m := Builtin.Tuple.tupleExact _) (wpAny_newObj_type (wpAny_pure ⟨_, rfl, wpAny_pure q⟩) hk)
    | exact wpAny_bind (m := Builtin.Tuple.tupleExact _) (wpAny_newObj_type (wpAny_bind (wpAny_pure (wpAny_pure ⟨_, rfl, wpAny_pure q⟩))) hk)
    | exact wpAny_bind (wpAny_bind (m := Builtin.Tuple.tupleExact _) (wpAny_newObj_type (wpAny_pure (wpAny_pure ⟨_, rfl, wpAny_pure q⟩)) hk))
    | exact wpAny_bind (wpAny_bind (m := Builtin.Tuple.tupleExact _) (wpAny_newObj_type (wpAny_pure ⟨_, rfl, wpAny_pure q⟩) hk))
end
section
variable {X : Cx} {K : PySem.W.Frag}
def tRevT (K : PySem.W.Frag) (te : TE) : TE := fun σ H Q => te σ H fun x H1 => ∃ a xs, x = .ref a ∧ SqT K H1 a xs ∧ ∀ p, H1 p = none → Q (.ref p) (upd H1 p (.tup xs.reverse))
theorem pe_revT {e : Expr} {te : TE} {j : Nat} {pc pu p2 pos : Pos} (hK : X.K = K) (he : PE X e te) : PE X (.Subscript e (.Slice none none (some (.UnaryOp .USub (.Constant (.int 1) j pc) pu)) p2) pos) (tRevT K te) := by
  subst hK
  intro pins s σ H Q I h
  refine Subscript_ (thn (he pins s σ H _ I h) fun v s1 ⟨x, H1, I1, r1, q1⟩ => ?_)
  obtain ⟨a, xs, rfl, hx, q⟩ := q1
  cases (show v = Value.ref a from r1)
  refine wpAny_Slice (thn (po_none pins s1 σ H1 (fun o H2 => o = none ∧ H2 = H1) I1 ⟨rfl, rfl⟩) fun vl s2 ⟨l, H2, I2, pl, q2a, q2⟩ => thn (po_none pins s2 σ H2 (fun o H3 => o = none ∧ H3 = H1) I2 ⟨rfl, q2⟩) fun vu s3 ⟨u, H3, I3, pu', q3a, q3⟩ => ?_)
  subst q2a q3a
  cases pl
  cases pu'
  subst q3
  refine thn (po_some (pe_un un_neg pe_int) pins s3 σ H3 (fun o H4 => o = some (-1) ∧ H4 = H3) I3 ⟨_, rfl, _, rfl, rfl, rfl⟩) fun vs s4 ⟨o, H4, I4, po, q4, q5⟩ => ?_
  subst q4 q5
  have I5 : Inv X pins σ H4 { s4 with heap := s4.heap.push { cls := .type "slice", data := .fields #[.none, .none, vs] } } := I4.kept (t' := s4.toks) fun b ob q => Heap.get?_push_of_some _ q
  show wpAny (model X.prog X.w) X.A (subscriptTail e _ (.ref a) (.ref s4.heap.objs.size)) (EP X pins σ Q) X.xe { s4 with heap := s4.heap.push { cls := .type "slice", data := .fields #[.none, .none, vs] } }
  obtain ⟨its, r, ht, hz⟩ := I5.tuple hx
  have hlen := r.length
  refine tail_any (ops := [.ref a, .ref s4.heap.objs.size]) ht.typeIs slot_tuple_getitem.lookup ?_ (by with_unfolding_all rfl)
  refine item_rev ht (Heap.IsSliceOf.new ..) po ?_ (by omega)
  refine ⟨.ref _, _, I5.laid (t' := s4.toks) (o := .tup xs.reverse) (fun b ob q => Heap.get?_push_of_some _ q) (Nat.le_refl _) ?_, rfl, q _ (I5.hok.fresh (Nat.le_refl _))⟩
  exact ⟨by rw [List.length_reverse]; exact hz, _, valsRev r, IsTup.new _ _⟩
end
end L3

namespace L3
open PySem PySem.Spec PyProof.Rows L2
def wfN (k s l : Nat) (w : Int) : Nat := (wfI k s l w).toNat
structure WfF (k s l : Nat) (w : Int) : Prop where
  eq : wfI k s l w = (wfN k s l w : Int)
  lt : wfN k s l w < 2 ^ k
  at_ : figI k s (wfN k s l w) = w
  off : ∀ t : Nat, t ≤ k → t ≠ s → figI k t (wfN k s l w) = figI k t l
def mixN (k e x t : Nat) : Nat := (numL ((figsL k e).take (t - 1) ++ (figsL k x).drop t)).toNat
def fstI (rows : List (List Int)) (t n : Nat) : Int := (rows.getD (t - 1) []).getD n 0
def Ahead (k : Nat) (rows : List (List Int)) (e m x y : Nat) : Prop := ∃ t : Nat, m < t ∧ t ≤ k ∧ figI k t x ≠ figI k t y ∧ (∀ u : Nat, t < u → u ≤ k → figI k u x = figI k u y) ∧ figI k t x = fstI rows t (mixN k e x t)
structure OrdF (k : Nat) (rows : List (List Int)) (e n : Nat) (L : List Nat) : Prop where
  len : L.length = 2 ^ n
  mem : ∀ x ∈ L, x < 2 ^ k ∧ ∀ t : Nat, 1 ≤ t → t ≤ k - n → figI k t x = figI k t e
  all : ∀ x : Nat, x < 2 ^ k → (∀ t : Nat, 1 ≤ t → t ≤ k - n → figI k t x = figI k t e) → x ∈ L
  row : L.Pairwise (Ahead k rows e (k - n))
end L3

namespace L3
open PySem PySem.Spec PyProof.Rows L2
section
variable {lo : Int} {n k : Nat} {tt : TT} {te : TE} {Q : VK} {σ : L2.St} {H : Hp}
end
end L3

namespace L3
open PySem PySem.Spec PyProof.Rows L2
def LsR (H : Hp) (x : V) (row : List Int) : Prop := ∃ r, x = .ref r ∧ H r = some (.lst (row.map V.int))
def LsB (H : Hp) (x : V) (rows : List (List Int)) : Prop := ∃ l xs, x = .ref l ∧ H l = some (.lst xs) ∧ AllR (LsR H) xs rows
def LsN (a : Addr) (H : Hp) (x : V) (row : List Int) : Prop := ∃ r, x = .ref r ∧ r ∉ [a] ∧ H r = some (.lst (row.map V.int))
def LsA (a : Addr) (H : Hp) (x : V) (rows : List (List Int)) : Prop := ∃ l xs, x = .ref l ∧ l ∉ [a] ∧ H l = some (.lst xs) ∧ AllR (LsN a H) xs rows
theorem LsA.b {a : Addr} {H : Hp} {x : V} {rows : List (List Int)} (h : LsA a H x rows) : LsB H x rows := by
  obtain ⟨l, xs, e, n, z, w⟩ := h
  exact ⟨l, xs, e, z, w.imp fun _ _ ⟨r, e, _, z⟩ => ⟨r, e, z⟩⟩
end L3

namespace L3
open PySem PySem.Spec PyProof.Rows L2
def sd (k a : Nat) : Nat := if h : a = 0 ∨ k = 0 then 0 else a % 2 ^ k ^^^ sd k (a / 2 ^ k)
termination_by a
decreasing_by
  have : a ≠ 0 := fun e => h (.inl e)
  exact Nat.div_lt_self (by omega) (Nat.one_lt_two_pow (fun e => h (.inr e)))
end L3

namespace L3
open PySem PySem.Spec PyProof.Rows L2
section
variable {X : Cx}
end
end L3
namespace L3
open PySem PySem.Spec PyProof.Rows L2
theorem sorted_is {ms ns : List Int} (h : ms.Perm ns) (s : ms.Pairwise (· ≤ ·)) (t : ns.Pairwise (· ≤ ·)) : ms = ns := h.eq_of_pairwise (le := (· ≤ ·)) (fun _ _ _ _ a b => Int.le_antisymm a b) s t
end L3

namespace L3
open PySem PySem.Spec PyProof.Rows L2
section
variable {X : Cx}
end
end L3

namespace L3
open PySem PySem.Spec PyProof.Rows L2
end L3

namespace L3
open PySem PySem.Spec PyProof.Rows L2
section
variable {X : Cx} {K : PySem.W.Frag}
end
end L3

namespace L3
open PySem PySem.Spec PyProof.Rows L2
section
variable {prog : Program} {w : World} {A : Around} {E : Value → Shared → Prop} {s : Shared}
end
end L3

namespace L3
open PySem PySem.Spec PyProof.Rows L2
section
variable {prog : Program} {w : World} {A : Around} {E : Value → Shared → Prop} {s : Shared}
end
section
variable {X : Cx} {nm : Str} {pt : Pos} {K : PySem.W.Frag}
end
end L3

namespace L3
open PySem PySem.Spec PyProof.Rows L2
section
variable {X : Cx} {K : PySem.W.Frag}
end
section
variable {X : Cx}
end
section
variable {lo : Int} {n k : Nat} {te : TE} {Q : VK} {σ : L2.St} {H : Hp}
end
end L3

namespace L3
open PySem PySem.Spec PyProof.Rows L2
theorem natsV_len {gs : List Nat} : (natsV gs).length = gs.length := by unfold natsV; rw [List.length_map]
def RowsIn (K : PySem.W.Frag) (H : Hp) (f : Addr) (rows : List (List Int)) : Prop := ∃ xs, H f = some (.lst xs) ∧ AllR (BoardAt K H) xs rows
theorem RowsIn.grow {K : PySem.W.Frag} {H H' : Hp} {f : Addr} {rows : List (List Int)} (h : RowsIn K H f rows) (g : Grow [] H H') : RowsIn K H' f rows := by
  obtain ⟨xs, e, a⟩ := h
  exact ⟨xs, g.keep _ _ (by simp) e, g.boardsR a⟩
theorem RowsIn.ne {K : PySem.W.Frag} {H : Hp} {f r : Addr} {rows : List (List Int)} (h : RowsIn K H f rows) (e : H r = none) : r ≠ f := by
  obtain ⟨xs, e', _⟩ := h
  intro z; rw [z, e'] at e; cases e
theorem natsV_app {a b : List Nat} : natsV (a ++ b) = natsV a ++ natsV b := by unfold natsV; exact List.map_append
theorem Grow.shrink2 {H H' : Hp} {f l : Addr} (g : Grow [f, l] H H') (h : H l = none) : Grow [f] H H' :=
  ⟨fun b o hb q => g.keep b o (fun z => by rcases List.mem_cons.mp z with z | z; exact hb (by simp [z]); rw [List.mem_singleton.mp z, h] at q; cases q) q, g.tup, g.frz⟩
end L3
namespace L3
open PySem PySem.Spec PyProof.Rows L2
end L3
namespace L3
open PySem PySem.Spec PyProof.Rows L2
theorem natsV_get? {gs : List Nat} {i g : Nat} (h : gs[i]? = some g) : (natsV gs)[i]? = some (.int g) := by unfold natsV; rw [List.getElem?_map, h]; rfl
theorem RowsIn.set {K : PySem.W.Frag} {H : Hp} {f : Addr} {rows : List (List Int)} {xs : List V} (e : H f = some (.lst xs)) (a : AllR (BoardAt K H) xs rows) : RowsIn K H f rows := ⟨xs, e, a⟩
end L3
namespace L3
open PySem PySem.Spec PyProof.Rows L2
end L3

namespace L3
open PySem PySem.Spec PyProof.Rows L2
structure CScC (X : Cx) (scope : Scope) (N' : List Str) (sub : List (Option Nat)) : Prop where
  free : ∀ y ∈ scope.names, y.2 = .free → X.env.kindOf y.1 = some .cell
  nd : (scope.names.map (·.1)).Nodup
  kind : scope.kind = .function
  names : ∀ y ∈ scope.names, y.2 = .local → scope.names.lookup y.1 = some .local
  len : sub.length = N'.length
  cap : ∀ (j : Nat) (y : Str) (i : Nat), N'[j]? = some y → sub[j]? = some (some i) → X.N[i]? = some y ∧ X.env.scope.names.lookup y = some .cell ∧ scope.names.lookup y = some .free
section
variable {X : Cx} {pins : List (Addr × Obj)} {σ : L2.St} {H2 : Hp} {s₂ : Shared} {it : Addr} {fp : List Addr} {tn : Nat → Heap → Prop} {J : It} {scope : Scope} {cl : List (Str × Addr)} {N' : List Str} {sub : List (Option Nat)}
end
section
variable {X : Cx} {scope : Scope} {N' : List Str} {sub : List (Option Nat)} {tg : Expr} {pos : Pos} {elt iter : Expr} {ifs : List Expr} {wi : TI} {g : TG} {tt : TT} {te : TE}
theorem CScC.clos {pins : List (Addr × Obj)} {σ : L2.St} {H : Hp} {s : Shared} (S : CScC X scope N' sub) (I : Inv X pins σ H s) : ∃ cl, closureFor scope X.env = pure cl ∧ (∀ x c, cl.lookup x = some c → X.env.cells.lookup x = some c) ∧ ∀ y ∈ scope.names, y.2 = .free → ∃ c, cl.lookup y.1 = some c :=
  closure_ok fun y hy hf => I.ok.has y.1 (.inl (S.free y hy hf))
end
end L3

namespace L3
open PySem PySem.Spec PyProof.Rows L2
theorem CScC.of {X : Cx} {scope : Scope} {N' : List Str} {sub : List (Option Nat)} (sc : Scope) (NN : List Str) (e : X.env.scope = sc) (en : X.N = NN)
    (h : ((scope.names.all fun y => (y.2 != .free || sc.names.lookup y.1 == some .cell) && (y.2 != .local || scope.names.lookup y.1 == some .local)) && (sub.length == N'.length) &&
      ((N'.zip sub).all fun p => match p.2 with | none => true | some i => NN[i]? == some p.1 && sc.names.lookup p.1 == some .cell && scope.names.lookup p.1 == some .free)) = true)
    (nd : (scope.names.map (·.1)).Nodup) (hk : scope.kind = .function) : CScC X scope N' sub := by
  rw [Bool.and_eq_true, Bool.and_eq_true] at h
  obtain ⟨⟨h1, h2⟩, h3⟩ := h
  have k1 := fun y hy => List.all_eq_true.mp h1 y hy
  refine ⟨fun y hy hf => ?_, nd, hk, fun y hy hl => ?_, by simpa using h2, fun j y i hj hs => ?_⟩
  · have := k1 y hy
    simp only [hf, Bool.and_eq_true] at this
    have z := this.1
    show X.env.scope.names.lookup y.1 = _
    rw [e]; simpa using z
  · have := k1 y hy
    simp only [hl, Bool.and_eq_true] at this
    simpa using this.2
  · have hm : (y, some i) ∈ N'.zip sub := by
      have : (N'.zip sub)[j]? = some (y, some i) := by
        rw [List.getElem?_zip_eq_some]; exact ⟨hj, hs⟩
      exact List.mem_of_getElem? this
    have := List.all_eq_true.mp h3 _ hm
    simp only [Bool.and_eq_true, beq_iff_eq] at this
    rw [e, en]
    exact ⟨this.1.1, this.1.2, this.2⟩
end L3

namespace L3
open PySem PySem.Spec PyProof.Rows L2
theorem AllOk.at {ds : List Deed} (h : AllOk ds) {i : Nat} (hi : i < ds.length) : (ds.getD i look).Ok := h _ (List.mem_of_getElem? (getDd hi))
structure MixOk (m : List Nat) : Prop where
  nd : m.Nodup
  lt : ∀ j ∈ m, j < m.length
  has : ∀ j, j < m.length → j ∈ m
theorem MixOk.of {m : List Nat} {n : Nat} (h : m.Perm (List.range n)) : MixOk m ∧ m.length = n := by
  have hl : m.length = n := by rw [h.length_eq, List.length_range]
  refine ⟨⟨(h.nodup_iff).mpr List.nodup_range, fun j hj => ?_, fun j hj => ?_⟩, hl⟩
  · rw [hl]; exact List.mem_range.mp (h.mem_iff.mp hj)
  · exact h.mem_iff.mpr (List.mem_range.mpr (by omega))
theorem MixOk.at {m : List Nat} (h : MixOk m) {j : Nat} (hj : j < m.length) : m.idxOf j < m.length ∧ m.getD (m.idxOf j) 0 = j := by
  have hl := List.idxOf_lt_length_of_mem (h.has j hj)
  refine ⟨hl, ?_⟩
  rw [List.getD_eq_getElem?_getD, List.getElem?_eq_getElem hl]
  exact List.getElem_idxOf hl
end L3

namespace L3
open PySem PySem.Spec PyProof.Rows L2
section
variable {X : Cx} {K : PySem.W.Frag}
theorem mt_index (hK : X.K = K) : MtR X "list.index" (fun x vs H Q => ∃ (l : Addr) (ns : List Nat) (j : Nat), x = .ref l ∧ vs = [.int j] ∧ SqL K H l (natsV ns) ∧ j ∈ ns ∧ ns.length ≤ 1000 ∧ Q (.int (ns.idxOf j : Nat)) H) := by
  subst hK
  intro pins s σ H x vs v us Q I rx rv h
  obtain ⟨l, ns, j, rfl, rfl, hq, hj, hl, q⟩ := h
  cases rx
  obtain ⟨u, rfl, t, rfl⟩ := vals1 rv
  obtain ⟨its, r, ⟨o, n, ho, hc, hdi, hd⟩, hz⟩ := I.list hq
  obtain ⟨oc, od, oda, osl⟩ := o
  cases hc
  cases hd
  have hlen := r.length
  rw [natsV_len] at hlen
  have hp := List.idxOf_lt_length_of_mem hj
  have at_ : ∀ m, m < ns.length → ∃ t, its[m]? = some (.int (ns.getD m 0 : Nat) t) := fun m hm => by
    have e1 : (natsV ns)[m]? = some (.int (ns.getD m 0 : Nat)) := natsV_get? (by rw [List.getD_eq_getElem?_getD, List.getElem?_eq_getElem hm]; rfl)
    obtain ⟨u, hu, t, rfl⟩ := r.get e1
    exact ⟨t, hu⟩
  have hjj : ∀ m (hm : m < its.toArray.size), ∃ t, its.toArray[m] = .int (ns.getD m 0 : Nat) t := fun m hm => by
    have hm' : m < its.length := by simpa using hm
    obtain ⟨t, e⟩ := at_ m (by omega)
    rw [List.getElem?_eq_getElem hm'] at e
    exact ⟨t, by simpa using Option.some.inj e⟩
  have key : ∀ (x : Int), x = (j : Int) → ∀ (p : Nat), p = ns.idxOf j → wpAny (model X.prog X.w) X.A (call (.builtin "list.index") (.ref l :: [.int x t])) (EP X pins σ Q) X.xe s := by
    intro x hx p hpp
    have hp' : p < its.toArray.size := by simp; omega
    refine call_meets F.slot_list_index ⟨_, ho, rfl⟩ F.entry_list_index (F.args_list_index_2 _ _)
      (SeqAt.list_indexAt l its.toArray n od osl (.int x t) (fun v => match v with | .int a _ => a == x | _ => false) p hp' (by have := hp'; simp at this; omega) ?_ ?_) ⟨ho, ?_, ?_⟩
    · obtain ⟨t', e⟩ := hjj p hp'
      rw [e]
      show ((ns.getD p 0 : Nat) : Int) == x
      have : ns.getD p 0 = j := by
        rw [hpp, List.getD_eq_getElem?_getD, List.getElem?_eq_getElem hp]
        exact List.getElem_idxOf hp
      rw [this, hx]; simp
    · intro m hm hlt
      obtain ⟨t', e⟩ := hjj m hm
      rw [e]
      show (((ns.getD m 0 : Nat) : Int) == x) = false
      have hne : ns.getD m 0 ≠ j := by
        have hm' : m < ns.length := by rw [hlen]; simpa using hm
        intro z
        have z' : ns[m] = j := by rw [← z, List.getD_eq_getElem?_getD, List.getElem?_eq_getElem hm']; rfl
        have := List.not_of_lt_findIdx (p := (· == j)) (xs := ns) (i := m) (by rw [hpp] at hlt; exact hlt)
        rw [z'] at this; simp at this
      rw [hx]
      exact beq_false_of_ne fun z => hne (Int.ofNat.inj z)
    · intro y hy
      obtain ⟨m, hm, rfl⟩ := List.getElem_of_mem (by simpa using hy : y ∈ its)
      obtain ⟨t', e⟩ := hjj m (by simpa using hm)
      have e' : its[m] = .int (ns.getD m 0 : Nat) t' := by simpa using e
      rw [e']
      exact SeqAt.EqAt.int_int _ _ _ _
    · exact ⟨.int (ns.idxOf j : Nat), H, I.tok _, ⟨_, by rw [hpp]⟩, q⟩
  exact key _ rfl _ rfl
end
end L3
namespace L3
open PySem PySem.Spec PyProof.Rows L2
theorem pe_bmK {X : Cx} {K : PySem.W.Frag} {T : String} {name : Str} {id : String} {r : V → List V → Hp → VK → Prop} {o e : Expr} {es : List Expr} {to : TE} {t : TA} {apos cpos : Pos} (hK : X.K = K) (pa : PlainAttrs T) (slot : Slot T name id) (hty : typeOf (.builtin id) = pure (.type "method_descriptor")) (hm : MtR X id r) (ho : PE X o to) (ha : PA X (e :: es) t)
    (hbase : attributeBase o name X.env (eval o X.env) = eval o X.env := by rfl)
    (hfew : ((backTo cpos (starEach (e :: es) X.env)).all (fun x => !x.1) && (backToKw cpos (keywordEach [] X.env)).all (fun x => x.1.isSome)
      && decide ((e :: es).length + ([] : List Keyword).length + (if ([] : List Keyword).isEmpty then 0 else 1) < 30)) = true := by rfl)
    (hline : (apos.endLine == cpos.line) = true := by rfl) (hs : starEach (e :: es) X.env = (false, eval e X.env) :: starEach es X.env := by rfl) (hplain : (backTo cpos (starEach es X.env)).any (·.1) = false := by rfl) :
    PE X (.Call (.Attribute o name apos) (e :: es) [] cpos) (tBM K T r to t) := by
  subst hK
  exact pe_bm pa slot hty hm ho ha hbase hfew hline hs hplain
end L3

namespace L3
open PySem PySem.Spec PyProof.Rows L2
structure WkD (prog : Program) (w : World) (A : Around) (T : String) (I : Addr) (n : Nat) (Fr : Addr → Prop) (J : List Value → Shared → Prop) (Fn : List Value → Shared → Prop) : Prop where
  ty : ∀ acc s, J acc s → s.TypeIs (.ref I) T
  self : ∀ acc s (Q : Value → Shared → Prop) (E : Value → Shared → Prop), J acc s → Q (.ref I) s → wpAny (model prog w) A (pyIter (.ref I)) Q E s
  stay : ∀ acc s (S : Addr) (ob : Obj) (h' : Heap), J acc s → Fr S → s.heap.get? S = some ob → (ob.cls = .type "list" ∧ ∀ v, ob.data ≠ .cell v) → (∀ b o, b ≠ S → s.heap.get? b = some o → h'.get? b = some o) → h'.objs.size = s.heap.objs.size → J acc { s with heap := h' }
  next : ∀ acc s (S : Addr) (ob : Obj) (Q : Option Value → Shared → Prop) (E : Value → Shared → Prop), J acc s → Fr S → s.heap.get? S = some ob → (ob.cls = .type "list" ∧ ∀ v, ob.data ≠ .cell v) →
    (∀ v s', acc.length < n → J (acc ++ [v]) s' → s'.heap.get? S = some ob → Q (some v) s') → (∀ s', Fn acc s' → s'.heap.get? S = some ob → Q none s') → wpAny (model prog w) A (pyNext (.ref I)) Q E s
  push : ∀ acc s (o : Obj), J acc s → J acc { s with heap := s.heap.push o }
section
variable {prog : Program} {w : World} {A : Around} {R : Result → Shared → Prop} {T : String} {I : Addr} {n : Nat} {Fr : Addr → Prop} {J Fn : List Value → Shared → Prop}
end
section
variable {prog : Program} {w : World} {A : Around} {E : Value → Shared → Prop} {s : Shared} {T : String} {I : Addr} {n : Nat} {Fr : Addr → Prop} {J Fn : List Value → Shared → Prop}
end
section
variable {X : Cx} {pins : List (Addr × Obj)} {σ : L2.St} {fp : List Addr} {it : Addr} {tn : Nat → Heap → Prop} {Jt : It} {nm : Str} {pt : Pos} {cls : String} {H0 : Hp} {S0 : Addr} {n : Nat}
end
section
variable {X : Cx} {K : PySem.W.Frag} {a b : Expr} {ta : TA} {p p2 pos pos2 : Pos}
theorem SqC.grow {c : Bool} {H H' : Hp} {a : Addr} {xs : List V} (g : Grow [] H H') (h : SqC c K H a xs) : SqC c K H' a xs := by
  cases c
  · exact g.sqL h
  · exact g.sqT h
end
end L3

namespace L3
open PySem PySem.Spec PyProof.Rows L2 HT
section
variable {prog : Program} {w : World} {A : Around} {E : Value → Shared → Prop} {s : Shared}
theorem add_none (l b : Addr) (us ws : Array Value) (n m : Nat) (d1 d2 : Option Addr) (e1 e2 : Array (Option Value)) (h0 : us.isEmpty = true) :
    Meets (Builtin.«tuple.__add__» ⟨[.ref l, .ref b], []⟩) (fun _ R s => s.heap.get? l = some ⟨.type "tuple", d1, .seq us n, e1⟩ ∧ s.heap.get? b = some ⟨.type "tuple", d2, .seq ws m, e2⟩ ∧ R (.ok (.ret (.ref b))) s) :=
  .of_wp fun P w A R s h => by
    obtain ⟨hh, gg, dd, tk, os⟩ := s
    obtain ⟨eL, eT, q⟩ := h
    have k1 := PySem.AutoSeq1.sub_tuple_tuple
    wp_walk using PySem.AutoSeq1.wpAny_loadPart' eL, PySem.AutoSeq1.wpAny_loadPart' eT
    exact ⟨_, rfl, q⟩
theorem cat_none {t b : Addr} {vs ws : List Value} {Q : Value → Shared → Prop} (ht : IsTup s.heap t vs.toArray) (hb : IsTup s.heap b ws.toArray) (hv : vs = []) (h1 : Q (.ref b) s) : wpAny (model prog w) A (binaryOp .Add (.ref t) (.ref b)) Q E s := by
  obtain ⟨⟨c1, d1, x1, l1⟩, ho, hc, n, hd⟩ := id ht
  obtain ⟨⟨c2, d2, x2, l2⟩, ho2, hc2, m, hd2⟩ := id hb
  cases hc
  cases hd
  cases hc2
  cases hd2
  exact concat_meets ⟨_, ho, rfl⟩ ⟨_, ho2, rfl⟩ noFill_tuple_add seq_tuple_add PySem.F.slot_tuple_add PySem.F.entry_tuple_add (PySem.F.args_tuple_add_2 _ _) (add_none t b vs.toArray ws.toArray n m d1 d2 l1 l2 (by simp [hv])) ⟨ho, ho2, h1⟩
theorem getItem_whole {t sl : Addr} {us : Array Value} {vl vu : Value} {lo hi : Option Int} {Q : Value → Shared → Prop} (ht : IsTup s.heap t us) (hs : s.heap.IsSliceOf sl vl vu .none) (pl : IsPart vl lo) (pu : IsPart vu hi)
    (hw : sIx us.size 0 lo = 0 ∧ sIx us.size us.size hi = us.size) (h : Q (.ref t) s) : wpAny (model prog w) A (getItem (.ref t) (.ref sl)) Q E s := by
  obtain ⟨os, hos, hcs, hds⟩ := id hs
  have hTs : s.TypeIs (.ref sl) "slice" := ⟨os, hos, hcs⟩
  unfold getItem
  try with_reducible refine wpAny_holding ?_
  first | refine wpAny_bind (wpAny_pure ?_) | skip
  refine wpAny_bind (wpAny_sequenceKey ht.typeIs (by decide) ?_)
  refine wpAny_bind (wpAny_callSpecial?_slot (name := Str.ofString "__getitem__") ht.typeIs PyProof.Rows.slot_tuple_getitem
    (wpAny_call_entry PyProof.Rows.slot_tuple_getitem ht.typeIs entry_tuple_getitem ?_ (args_tuple_getitem _ _)))
  show wpAny _ _ (Builtin.Tuple.tupleItemsOf (.ref t) >>= _) _ _ s
  refine wpAny_bind (tupleItemsOf_ ht ?_)
  refine wpAny_bind (wpAny_typeOf hTs ?_)
  rw [if_pos (by decide)]
  refine wpAny_bind (sliceApplied_gen hs pl pu ?_)
  have yes : (((sIx us.size 0 lo : Nat) : Int) == 0 && (1 : Int) == 1 && (sIx us.size us.size hi - sIx us.size 0 lo) == us.size) = true := by
    rw [hw.1, hw.2]; simp
  show wpAny _ _ (if (((sIx us.size 0 lo : Nat) : Int) == 0 && (1 : Int) == 1 && (sIx us.size us.size hi - sIx us.size 0 lo) == us.size) = true then _ else _) _ _ s
  rw [if_pos yes]
  refine wpAny_bind ?_
  unfold Builtin.Tuple.tupleIsExact
  refine wpAny_bind (wpAny_typeOf ht.typeIs (wpAny_pure ?_))
  show wpAny _ _ (rule _ >>= _) _ _ s
  exact wpAny_bind (wpAny_rule (wpAny_bind (wpAny_pure (wpAny_pure ⟨_, rfl, wpAny_pure h⟩))))
end
section
variable {X : Cx} {K : PySem.W.Frag}
def rSlG (K : PySem.W.Frag) : V → Option Int → Option Int → Hp → VK → Prop := fun x lo hi H Q => ∃ a xs, x = .ref a ∧ SqT K H a xs ∧ ∀ p H', Grow [] H H' → SqT K H' p (cutV xs lo hi) → Q (.ref p) H'
theorem cut_whole {xs : List V} {lo hi : Option Int} (h : HT.sIx xs.length 0 lo = 0 ∧ HT.sIx xs.length xs.length hi = xs.length) : cutV xs lo hi = xs := by
  unfold cutV
  rw [h.1, h.2, List.drop_zero, Nat.sub_zero, List.take_length]
theorem sl_tupG (hK : X.K = K) : SlR X (rSlG K) := by
  subst hK
  intro pins s σ H x v vl vu lo hi sl Q I rx hs pl pu h
  obtain ⟨a, xs, rfl, hx, q⟩ := h
  by_cases hw : HT.sIx xs.length 0 lo = 0 ∧ HT.sIx xs.length xs.length hi = xs.length
  · cases rx
    obtain ⟨its, r, ht, hz⟩ := I.tuple hx
    have hlen : its.toArray.size = xs.length := by rw [List.size_toArray]; exact r.length.symm
    refine ⟨"tuple", _, PyProof.Rows.slot_tuple_getitem.lookup, ht.typeIs, ?_⟩
    exact getItem_whole ht hs pl pu (by rw [hlen]; exact hw) ⟨.ref a, H, I, rfl, q a H (Grow.refl _ _) (by rw [cut_whole hw]; exact hx)⟩
  · exact sl_tup pins s σ H _ v vl vu lo hi sl Q I rx hs pl pu ⟨a, xs, rfl, hx, hw, fun p hp => q p _ (Grow.new hp _) (SqT.of upd_same)⟩
def rCatG (K : PySem.W.Frag) : R2 := fun x y H Q => ∃ a b xs ys, x = .ref a ∧ y = .ref b ∧ SqT K H a xs ∧ SqT K H b ys ∧ xs.length + ys.length ≤ sizeLine ∧ ∀ p H', Grow [] H H' → SqT K H' p (xs ++ ys) → Q (.ref p) H'
theorem op_catG (hK : X.K = K) : OpR X (binaryOp .Add) (rCatG K) := by
  subst hK
  intro pins s σ H x y v u Q I rx ry h
  obtain ⟨a, b, xs, ys, rfl, rfl, ha, hb, hz, q⟩ := h
  by_cases hx : xs = []
  · cases rx
    cases ry
    obtain ⟨its, r1, p1, _⟩ := I.tuple ha
    obtain ⟨its2, r2, p2, _⟩ := I.tuple hb
    exact cat_none p1 p2 (r1.nil_iff.mpr hx) ⟨.ref b, H, I, rfl, q b H (Grow.refl _ _) (by rw [hx]; exact hb)⟩
  · exact op_catT pins s σ H _ _ v u Q I rx ry ⟨a, b, xs, ys, rfl, rfl, ha, hb, hx, hz, fun e => q a H (Grow.refl _ _) (by rw [e, List.append_nil]; exact ha), fun _ p hp => q p _ (Grow.new hp _) (SqT.of upd_same)⟩
end
end L3

namespace L3
open PySem PySem.Spec PyProof.Rows L2
end L3
namespace L3
open PySem PySem.Spec PyProof.Rows L2
end L3
namespace L3
open PySem PySem.Spec PyProof.Rows L2
end L3

namespace L3
open PySem PySem.Spec PyProof.Rows L2
def MCallee (P : Program) (w : World) (K : PySem.W.Frag) (mg : Str → Option Value) (base : Heap) (C : Addr) (k : Nat) (m : Str) (ps : List Str) (sp : Sp) : Prop :=
  ∃ (f : Addr) (fd : FuncData), FnOk P w K mg base CX0 k f fd ps sp ∧ Binds K fd ps [] ∧ Meth K C m f
def MkCallee (P : Program) (w : World) (K : PySem.W.Frag) (mg : Str → Option Value) (base : Heap) (C : Addr) (k : Nat) (ps : List Str) (sp : Sp) : Prop :=
  ∃ (j : Nat) (f : Addr) (fd : FuncData), j + 1 = k ∧ FnOk P w K mg base CX0 j f fd ps sp ∧ Binds K fd ps [] ∧ Mk K C f
section
variable {P : Program} {w : World} {K : PySem.W.Frag} {mg : Str → Option Value} {base : Heap} {C : Addr} {j k : Nat} {m : Str} {ps : List Str} {sp : Sp}
theorem MCallee.mono (c : MCallee P w K mg base C j m ps sp) (h : j ≤ k) : MCallee P w K mg base C k m ps sp := by
  obtain ⟨f, fd, F, b, mt⟩ := c
  exact ⟨f, fd, F.mono h, b, mt⟩
theorem MkCallee.mono (c : MkCallee P w K mg base C j ps sp) (h : j ≤ k) : MkCallee P w K mg base C k ps sp := by
  obtain ⟨i, f, fd, e, F, b, mt⟩ := c
  exact ⟨k - 1, f, fd, by omega, F.mono (by omega), b, mt⟩
end
section
variable {X : Cx} {K : PySem.W.Frag} {C : Addr} {k : Nat} {m x : Str} {ps : List Str} {sp : Sp} {o e : Expr} {es : List Expr} {ta : TE} {t : TA} {apos pos p : Pos} {f : Str}
end
structure CTxt (K : PySem.W.Frag) (mg : Str → Option Value) (C : Addr) : Prop where
  cl : Cls K C
  n1 : NoAttr K C "depth"
  n2 : NoAttr K C "gates"
  n3 : NoAttr K C "out_lines"
  n4 : NoAttr K C "ups"
  n5 : NoAttr K C "tokens"
  n6 : NoAttr K C "came_out"
  n7 : NoAttr K C "given"
  mgC : mg "Counter" = some (.ref C)
end L3

namespace L3
open PySem PySem.Spec PyProof.Rows L2
def ixBody (us : Array Value) (x : Value) : Nat → Option PySem.Fin × Unit → Sem (ForInStep (Option PySem.Fin × Unit)) := fun i _ =>
  match us[i]? with
  | some y => do
    let b ← eqBool y x
    if b = true then do
      let r ← retInt i
      pure (ForInStep.done (some r, ()))
    else pure (ForInStep.yield (none, ()))
  | _ => pure (ForInStep.yield (none, ()))
theorem ix_loop {prog : Program} {w : World} {A : Around} {E : Value → Shared → Prop} {s : Shared} {us : Array Value} {x : Value} {e : Value → Bool} {j : Nat} {Q : Option PySem.Fin × Unit → Shared → Prop} (hj : j < us.size) (hit : e us[j] = true) (hno : ∀ m (hm : m < us.size), m < j → e us[m] = false)
    (he : ∀ y, y ∈ us → SeqAt.EqAt A s y x (e y)) (q : Q (some (Fin.done (.ret (.int j s.toks))), ()) { s with toks := s.toks + 1 }) :
    ∀ k i : Nat, j - i = k → i ≤ j → wpAny (model prog w) A (forIn (List.range' i (us.size - i)) (none, ()) (ixBody us x)) Q E s := by
  intro k
  induction k with
  | zero =>
    intro i hk hij
    have e0 : i = j := by omega
    subst e0
    rw [show us.size - i = (us.size - i - 1) + 1 by omega, List.range'_succ, List.forIn_cons]
    refine wpAny_bind ?_
    unfold ixBody
    rw [show us[i]? = some us[i] by simp [hj]]
    refine wpAny_bind (he _ (Array.getElem_mem hj) prog w _ _ ?_)
    rw [hit]
    show wpAny _ _ (retInt i >>= _) _ _ s
    refine wpAny_bind (wpAny_bind (wpAny_mkInt (wpAny_pure ?_)))
    exact wpAny_pure (wpAny_pure q)
  | succ k ih =>
    intro i hk hij
    have hlt : i < us.size := by omega
    rw [show us.size - i = (us.size - (i + 1)) + 1 by omega, List.range'_succ, List.forIn_cons]
    refine wpAny_bind ?_
    unfold ixBody
    rw [show us[i]? = some us[i] by simp [hlt]]
    refine wpAny_bind (he _ (Array.getElem_mem hlt) prog w _ _ ?_)
    rw [hno i hlt (by omega)]
    exact wpAny_pure (ih (i + 1) (by omega) (by omega))
theorem tup_idx (l : Addr) (us : Array Value) (n : Nat) (dd : Option Addr) (sl : Array (Option Value)) (x : Value) (e : Value → Bool) (j : Nat) (hj : j < us.size) (hit : e us[j] = true) (hno : ∀ m (hm : m < us.size), m < j → e us[m] = false) :
    Meets (Builtin.«tuple.index» ⟨[.ref l, x], []⟩) (fun A R s => s.heap.get? l = some ⟨.type "tuple", dd, .seq us n, sl⟩ ∧ (∀ y, y ∈ us → SeqAt.EqAt A.in1 s y x (e y)) ∧ R (.ok (.ret (.int j s.toks))) { s with toks := s.toks + 1 }) := by
  intro prog w A R s h
  obtain ⟨hl, he, q⟩ := h
  unfold Builtin.«tuple.index»
  refine wpAny_bind (m := selfAndSome "tuple.index" "index" 1 3 _) (wpAny_pure ?_)
  show wpAny _ _ (Builtin.Tuple.tupleItemsOf (.ref l) >>= _) _ _ s
  refine wpAny_bind (tupleItemsOf_ ⟨_, hl, rfl, n, rfl⟩ ?_)
  show wpAny _ _ ((forIn [0:min us.size us.size] (none, ()) (ixBody us x)) >>= _) _ _ s
  refine wpAny_bind ?_
  rw [Nat.min_self]
  first | rw [Std.Legacy.Range.forIn_eq_forIn_range'] | simp only [Std.Legacy.Range.forIn_eq_forIn_range']
  have z := ix_loop (prog := prog) (w := w) (A := A.in1) (E := fun e s' => R (.error e) s') (s := s) (us := us) (x := x) (e := e) (j := j) (Q := fun a s' => wpAny (model prog w) A.in1 (match a.fst with
        | some r => pure r
        | none => do
          rule "tuple.index.not-found"
          raiseErrorWords "ValueError" "tuple.index(x): x not in tuple") (fun fin s' => match fin with | .done f => R (.ok f) s' | .again c' => c'.quiet = true ∧ codeAny (model prog w) A c' R s') (fun e s' => R (.error e) s') s') hj hit hno he (wpAny_pure q) j 0 rfl (Nat.zero_le _)
  rw [Nat.sub_zero] at z
  simp only [Std.Legacy.Range.size, Nat.sub_zero, Nat.add_sub_cancel, Nat.div_one]
  exact wpAny_mono z (fun a s' h => by obtain ⟨o, u⟩ := a; cases o <;> exact h) (fun _ _ h => h)
section
variable {X : Cx} {K : PySem.W.Frag}
theorem mt_tindex (hK : X.K = K) : MtR X "tuple.index" (fun x vs H Q => ∃ (l : Addr) (ns : List Nat) (j : Nat), x = .ref l ∧ vs = [.int j] ∧ SqT K H l (natsV ns) ∧ j ∈ ns ∧ ns.length ≤ 1000 ∧ Q (.int (ns.idxOf j : Nat)) H) := by
  subst hK
  intro pins s σ H x vs v us Q I rx rv h
  obtain ⟨l, ns, j, rfl, rfl, hq, hj, hl, q⟩ := h
  cases rx
  obtain ⟨u, rfl, t, rfl⟩ := vals1 rv
  obtain ⟨its, r, ⟨o, ho, hc, n, hd⟩, hz⟩ := I.tuple hq
  obtain ⟨oc, od, oda, osl⟩ := o
  cases hc
  cases hd
  have hlen := r.length
  rw [natsV_len] at hlen
  have hp := List.idxOf_lt_length_of_mem hj
  have at_ : ∀ m, m < ns.length → ∃ t, its[m]? = some (.int (ns.getD m 0 : Nat) t) := fun m hm => by
    have e1 : (natsV ns)[m]? = some (.int (ns.getD m 0 : Nat)) := natsV_get? (by rw [List.getD_eq_getElem?_getD, List.getElem?_eq_getElem hm]; rfl)
    obtain ⟨u, hu, t, rfl⟩ := r.get e1
    exact ⟨t, hu⟩
  have hjj : ∀ m (hm : m < its.toArray.size), ∃ t, its.toArray[m] = .int (ns.getD m 0 : Nat) t := fun m hm => by
    have hm' : m < its.length := by simpa using hm
    obtain ⟨t, e⟩ := at_ m (by omega)
    rw [List.getElem?_eq_getElem hm'] at e
    exact ⟨t, by simpa using Option.some.inj e⟩
  have key : ∀ (x : Int), x = (j : Int) → ∀ (p : Nat), p = ns.idxOf j → wpAny (model X.prog X.w) X.A (call (.builtin "tuple.index") (.ref l :: [.int x t])) (EP X pins σ Q) X.xe s := by
    intro x hx p hpp
    have hp' : p < its.toArray.size := by simp; omega
    refine call_meets F.slot_tuple_index ⟨_, ho, rfl⟩ F.entry_tuple_index (F.args_tuple_index_2 _ _)
      (tup_idx l its.toArray n od osl (.int x t) (fun v => match v with | .int a _ => a == x | _ => false) p hp' ?_ ?_) ⟨ho, ?_, ?_⟩
    · obtain ⟨t', e⟩ := hjj p hp'
      rw [e]
      show ((ns.getD p 0 : Nat) : Int) == x
      have : ns.getD p 0 = j := by
        rw [hpp, List.getD_eq_getElem?_getD, List.getElem?_eq_getElem hp]
        exact List.getElem_idxOf hp
      rw [this, hx]; simp
    · intro m hm hlt
      obtain ⟨t', e⟩ := hjj m hm
      rw [e]
      show (((ns.getD m 0 : Nat) : Int) == x) = false
      have hne : ns.getD m 0 ≠ j := by
        have hm' : m < ns.length := by rw [hlen]; simpa using hm
        intro z
        have z' : ns[m] = j := by rw [← z, List.getD_eq_getElem?_getD, List.getElem?_eq_getElem hm']; rfl
        have := List.not_of_lt_findIdx (p := (· == j)) (xs := ns) (i := m) (by rw [hpp] at hlt; exact hlt)
        rw [z'] at this; simp at this
      rw [hx]
      exact beq_false_of_ne fun z => hne (Int.ofNat.inj z)
    · intro y hy
      obtain ⟨m, hm, rfl⟩ := List.getElem_of_mem (by simpa using hy : y ∈ its)
      obtain ⟨t', e⟩ := hjj m (by simpa using hm)
      have e' : its[m] = .int (ns.getD m 0 : Nat) t' := by simpa using e
      rw [e']
      exact SeqAt.EqAt.int_int _ _ _ _
    · exact ⟨.int (ns.idxOf j : Nat), H, I.tok _, ⟨_, by rw [hpp]⟩, q⟩
  exact key _ rfl _ rfl
def FrT (H : Hp) (r : Addr) (xs : List V) : Prop := ∃ o : Obj, H r = some (.frz o (.tup xs)) ∧ o.cls = .type "tuple" ∧ o.dict = none
theorem FrT.sqT {H : Hp} {r : Addr} {xs : List V} (h : FrT H r xs) : SqT K H r xs := by
  obtain ⟨o, e, _⟩ := h
  exact .inl (.inr ⟨o, e⟩)
theorem Grow.frT {m : List Addr} {H H' : Hp} (g : Grow m H H') {r : Addr} {xs : List V} (h : FrT H r xs) : FrT H' r xs := by
  obtain ⟨o, e, c, d⟩ := h
  exact ⟨o, g.frz _ _ _ e, c, d⟩
theorem call_tupleF : CallR X (.type "tuple") (fun xs H Q => ∃ p ys, xs = [.ref p] ∧ SqL X.K H p ys ∧ ∀ (l : Addr) (o : Obj), H l = none → o.cls = .type "tuple" → o.dict = none → Q (.ref l) (upd H l (.frz o (.tup ys)))) := by
  intro pins s σ H xs us Q I r h
  obtain ⟨p, ys, rfl, hq, q⟩ := h
  obtain ⟨u, rfl, rx⟩ := vals1 r
  cases rx
  obtain ⟨its, r', pl, hz⟩ := I.list hq
  have hlen := r'.length
  refine call_tuple_list pl.isList (fun h' kp => ?_) (by simp only [List.size_toArray] <;> omega)
  have I1 : Inv X pins σ H { s with heap := h' } := I.kept (t' := s.toks) kp
  have I2 : Inv X pins σ (upd H h'.objs.size (.frz { cls := .type "tuple", data := .seq its.toArray } (.tup ys))) { s with heap := h'.push { cls := .type "tuple", data := .seq its.toArray } } :=
    I1.laid (t' := s.toks) (fun b o e => Heap.get?_push_of_some _ e) (Nat.le_refl _) (show ObjOk X.prog X.w _ _ _ (.frz _ (.tup ys)) from ⟨Heap.get?_push_size _ rfl, hz, its, r', IsTup.new _ _⟩)
  exact ⟨.ref h'.objs.size, _, I2, rfl, q _ _ (I1.hok.fresh (Nat.le_refl _)) rfl rfl⟩
def tBMF (r : V → List V → Hp → VK → Prop) (to : TE) (t : TA) : TE := fun σ H Q => to σ H fun x H1 => (∃ p ys, x = .ref p ∧ FrT H1 p ys) ∧ t σ H1 fun xs H2 => r x xs H2 Q
theorem pe_bmF {name : Str} {id : String} {r : V → List V → Hp → VK → Prop} {o e : Expr} {es : List Expr} {to : TE} {t : TA} {apos cpos : Pos} (pa : PlainAttrs "tuple") (slot : Slot "tuple" name id) (hty : typeOf (.builtin id) = pure (.type "method_descriptor")) (hm : MtR X id r) (ho : PE X o to) (ha : PA X (e :: es) t)
    (hbase : attributeBase o name X.env (eval o X.env) = eval o X.env := by rfl)
    (hfew : ((backTo cpos (starEach (e :: es) X.env)).all (fun x => !x.1) && (backToKw cpos (keywordEach [] X.env)).all (fun x => x.1.isSome)
      && decide ((e :: es).length + ([] : List Keyword).length + (if ([] : List Keyword).isEmpty then 0 else 1) < 30)) = true := by rfl)
    (hline : (apos.endLine == cpos.line) = true := by rfl) (hs : starEach (e :: es) X.env = (false, eval e X.env) :: starEach es X.env := by rfl) (hplain : (backTo cpos (starEach es X.env)).any (·.1) = false := by rfl) :
    PE X (.Call (.Attribute o name apos) (e :: es) [] cpos) (tBMF r to t) := by
  intro pins s σ H Q I h
  refine wpAny_Call_method_late hbase hfew hline rfl (thn (ho pins s σ H _ I h) fun v s1 ⟨x, H1, I1, r1, ⟨p, ys, ex, ob, ho', hc, hd⟩, q1⟩ => ?_)
  subst ex
  cases r1
  obtain ⟨hg, _⟩ := I1.hok p _ ho'
  refine ⟨"tuple", id, pa, slot, hty, ⟨ob, hg, hc⟩, fun a e => (by cases e; exact ⟨ob, hg, hd⟩), ?_⟩
  have hA := ha cpos pins s1 σ H1 _ I1 q1
  rw [hs] at hA ⊢
  refine Calls.callWith_builtin (by show (false || (backTo cpos (starEach es X.env)).any (·.1)) = false; rw [hplain] <;> rfl) (Calls.evalArgs_plain ?_)
  exact thn hA fun us s2 ⟨vs, H2, I2, r2, q2⟩ => hm pins s2 σ H2 (.ref p) vs (.ref p) us Q I2 rfl r2 q2
end
end L3

namespace L3
open PySem PySem.Spec PyProof.Rows L2
section
variable {c : TT} {e : TE} {i : Nat} {v v' : V} {t u r : TS} {D : Ends} {σ : L2.St} {H : Hp} {rt : VK} {bk ct : L2.St → Hp → Prop}
theorem c_if (Good : L2.St → Hp → Prop) (hr : ∀ σ' H', Good σ' H' → r D σ' H') (hc : (∀ σ' H', Good σ' H' → r D σ' H') → tIfS c t u { D with nx := r D } σ H) : tSeq (tIfS c t u) r D σ H := hc hr
theorem c_asg (Good : V → Hp → Prop) (hc : ∀ K : VK, (∀ v H', Good v H' → K v H') → e σ H K) (hr : ∀ v H', Good v H' → t D (σ.set i (some v)) H') : tSeq (tAsg e (gName i)) t D σ H := hc _ fun v H' g => hr v H' g
theorem c_next (h : t D σ H) : tNext ({ nx := t D, rt := rt, bk := bk, ct := ct } : Ends) σ H := h
theorem c_test (Good : Bool → Hp → Prop) (hc : ∀ K : Bool → Hp → Prop, (∀ b H', Good b H' → K b H') → c σ H K) (hr : ∀ b H', Good b H' → if b = true then t { D with nx := r D } σ H' else u { D with nx := r D } σ H') : tSeq (tIfS c t u) r D σ H := hc _ hr
end
end L3

namespace L3
open PySem PySem.Spec PyProof.Rows L2
abbrev OKey := Option Key
def okV : OKey → V
  | none => .non
  | some k => kV k
def DcO (a : Addr) (kvs : List (V × V)) : HO := .ext fun h => ∃ o es n, h.get? a = some o ∧ o.cls = .type "dict" ∧ o.data = .dict es n ∧ Vals (kvs.map (·.1)) (es.toList.map (·.key)) ∧ Vals (kvs.map (·.2)) (es.toList.map (·.val))
mutual
/-- nested data, whose lists and dicts are none of m -/
inductive Od (K : PySem.W.Frag) (m : List Addr) (H : Hp) : V → PyData → Prop
  | non : Od K m H .non .none
  | bl (b : Bool) : Od K m H (.bl b) (.bool b)
  | int (i : Int) : Od K m H (.int i) (.int i)
  | str (x : Str) : Od K m H (.str x) (.str x)
  | tup {a : Addr} {xs : List V} {ds : List PyData} : SqT K H a xs → Ods K m H xs ds → Od K m H (.ref a) (.tuple ds)
  | lst {a : Addr} {xs : List V} {ds : List PyData} : H a = some (.lst xs) → a ∉ m → a ≠ sysModules → Ods K m H xs ds → Od K m H (.ref a) (.list ds)
  | dct {a : Addr} {kvs : List (V × V)} {ds : List (PyData × PyData)} : H a = some (DcO a kvs) → a ∉ m → a ≠ sysModules → Ods K m H (kvs.map (·.1)) (ds.map (·.1)) → Ods K m H (kvs.map (·.2)) (ds.map (·.2)) → Od K m H (.ref a) (.dict ds)
inductive Ods (K : PySem.W.Frag) (m : List Addr) (H : Hp) : List V → List PyData → Prop
  | nil : Ods K m H [] []
  | cons {x : V} {xs : List V} {d : PyData} {ds : List PyData} : Od K m H x d → Ods K m H xs ds → Ods K m H (x :: xs) (d :: ds)
end
section
variable {K : PySem.W.Frag} {m : List Addr} {H H' : Hp}
mutual
theorem Od.grow (g : Grow m H H') : ∀ {x : V} {d : PyData}, Od K m H x d → Od K m H' x d
  | _, _, .non => .non
  | _, _, .bl b => .bl b
  | _, _, .int i => .int i
  | _, _, .str x => .str x
  | _, _, .tup h t => .tup (g.sqT h) (Ods.grow g t)
  | _, _, .lst h n b t => .lst (g.keep _ _ n h) n b (Ods.grow g t)
  | _, _, .dct h n b t u => .dct (g.keep _ _ n h) n b (Ods.grow g t) (Ods.grow g u)
theorem Ods.grow (g : Grow m H H') : ∀ {xs : List V} {ds : List PyData}, Ods K m H xs ds → Ods K m H' xs ds
  | _, _, .nil => .nil
  | _, _, .cons h t => .cons (Od.grow g h) (Ods.grow g t)
end
theorem Ods.length : ∀ {xs : List V} {ds : List PyData}, Ods K m H xs ds → xs.length = ds.length
  | _, _, .nil => rfl
  | _, _, .cons _ t => congrArg (· + 1) (Ods.length t)
theorem Ods.get : ∀ {xs : List V} {ds : List PyData} {i : Nat} {x : V}, Ods K m H xs ds → xs[i]? = some x → ∃ d, ds[i]? = some d ∧ Od K m H x d
  | _, _, _, _, .nil, e => by simp at e
  | _, _, 0, _, .cons h _, e => by simp at e; subst e; exact ⟨_, rfl, h⟩
  | _, _, i + 1, x, .cons _ t, e => Ods.get (i := i) t (by simpa using e)
theorem Ods.at : ∀ {xs : List V} {ds : List PyData} {i : Nat} {d : PyData}, Ods K m H xs ds → ds[i]? = some d → ∃ x, xs[i]? = some x ∧ Od K m H x d
  | _, _, _, _, .nil, e => by simp at e
  | _, _, 0, _, .cons h _, e => by simp at e; subst e; exact ⟨_, rfl, h⟩
  | _, _, i + 1, x, .cons _ t, e => Ods.at (i := i) t (by simpa using e)
theorem Ods.append : ∀ {xs ys : List V} {ds es : List PyData}, Ods K m H xs ds → Ods K m H ys es → Ods K m H (xs ++ ys) (ds ++ es)
  | _, _, _, _, .nil, s => s
  | _, _, _, _, .cons r t, s => .cons r (Ods.append t s)
theorem Ods.take : ∀ {xs : List V} {ds : List PyData} (n : Nat), Ods K m H xs ds → Ods K m H (xs.take n) (ds.take n)
  | _, _, 0, _ => .nil
  | _, _, _ + 1, .nil => .nil
  | _, _, n + 1, .cons r t => .cons r (Ods.take n t)
theorem Ods.drop : ∀ {xs : List V} {ds : List PyData} (n : Nat), Ods K m H xs ds → Ods K m H (xs.drop n) (ds.drop n)
  | _, _, 0, r => r
  | _, _, _ + 1, .nil => .nil
  | _, _, n + 1, .cons _ t => Ods.drop n t
end
section
variable {X : Cx} {pins : List (Addr × Obj)} {σ : L2.St} {H : Hp} {s : Shared} {m : List Addr}
theorem inv_big (I : Inv X pins σ H s) : sysModules < s.heap.objs.size := Nat.lt_trans (by decide) (show mainGlobals < s.heap.objs.size from (I.mod.glob.keeps I.bk).lt)
theorem DcO.at (I : Inv X pins σ H s) {a : Addr} {kvs : List (V × V)} (h : H a = some (DcO a kvs)) : ∃ o es n, s.heap.get? a = some o ∧ o.cls = .type "dict" ∧ o.data = .dict es n ∧ Vals (kvs.map (·.1)) (es.toList.map (·.key)) ∧ Vals (kvs.map (·.2)) (es.toList.map (·.val)) := (I.hok a _ h).1
mutual
theorem Od.reads (I : Inv X pins σ H s) : ∀ {x : V} {d : PyData} {u : Value}, Od X.K m H x d → RelV x u → ∃ as, Reads s.heap u d as ∧ sysModules ∉ as
  | _, _, u, .non, r => by
    cases (show u = Value.none from r)
    exact ⟨_, .none, by simp⟩
  | _, _, u, .bl b, r => by
    cases (show u = Value.bool b from r)
    exact ⟨_, .bool b, by simp⟩
  | _, _, u, .int i, r => by
    obtain ⟨t, rfl⟩ := r
    exact ⟨_, .int i t, by simp⟩
  | _, _, u, .str x, r => by
    obtain ⟨t, rfl⟩ := r
    exact ⟨_, .str x t, by simp⟩
  | _, _, u, .tup (a := a) hs hd, r => by
    cases (show u = Value.ref a from r)
    obtain ⟨its, r1, ⟨o, e1, e2, n, e3⟩, _⟩ := I.tuple hs
    obtain ⟨as, q, ns⟩ := Ods.reads I hd r1
    exact ⟨_, .tuple e1 e2 e3 q, ns⟩
  | _, _, u, .lst (a := a) hs _ hb hd, r => by
    cases (show u = Value.ref a from r)
    obtain ⟨its, r1, ⟨o, n, e1, e2, _, e3⟩, _⟩ := I.list (SqL.of hs)
    obtain ⟨as, q, ns⟩ := Ods.reads I hd r1
    exact ⟨_, .list e1 e2 e3 q, fun z => (List.mem_cons.mp z).elim (fun e => hb e.symm) ns⟩
  | _, _, u, .dct (a := a) hs _ hb h1 h2, r => by
    cases (show u = Value.ref a from r)
    obtain ⟨o, es, n, e1, e2, e3, v1, v2⟩ := DcO.at I hs
    obtain ⟨as, q1, n1⟩ := Ods.reads I h1 v1
    obtain ⟨bs, q2, n2⟩ := Ods.reads I h2 v2
    refine ⟨_, .dict e1 e2 e3 q1 q2, fun z => ?_⟩
    rcases List.mem_append.mp z with z | z
    · exact (List.mem_cons.mp z).elim (fun e => hb e.symm) n1
    · exact n2 z
theorem Ods.reads (I : Inv X pins σ H s) : ∀ {xs : List V} {ds : List PyData} {us : List Value}, Ods X.K m H xs ds → Vals xs us → ∃ as, ReadsAll s.heap us ds as ∧ sysModules ∉ as
  | _, _, _, .nil, .nil => ⟨_, .nil, by simp⟩
  | _, _, _, .cons h t, .cons r rs => by
    obtain ⟨as, q, n1⟩ := Od.reads I h r
    obtain ⟨bs, q2, n2⟩ := Ods.reads I t rs
    exact ⟨_, .cons q q2, fun z => (List.mem_append.mp z).elim n1 n2⟩
end
def rReprO (K : PySem.W.Frag) : List V → Hp → VK → Prop := fun xs H Q => ∃ x d m, xs = [x] ∧ Od K m H x d ∧ d.showable = true ∧ d.depth ≤ 60 ∧ d.shown.length ≤ sizeLine ∧ Q (.str d.shown) H
theorem call_reprO {K : PySem.W.Frag} {k : Nat} (hK : X.K = K) (hr : Room k X.A) : CallR X (.builtin "repr") (rReprO K) := by
  subst hK
  intro pins s σ H xs us Q I r h
  obtain ⟨x, d, m, rfl, hd, h1, h3, h4, q⟩ := h
  obtain ⟨u, rfl, rx⟩ := vals1 r
  have key : ∀ a, u = .ref a → wpAny (model X.prog X.w) X.A (call (.builtin "repr") [u]) (EP X pins σ Q) X.xe s := fun a e => by
    subst e
    obtain ⟨as, rd, ns⟩ := Od.reads I hd rx
    exact repr_of_reads' rd h1 (fun _ => ns) hr.gd (by have := hr.un; omega) (fun _ _ e => e) (fun h' t tk hk => ⟨.str _, H, I.kept hk, ⟨_, rfl⟩, q⟩) h4
  cases hd with
  | non =>
    cases (show u = Value.none from rx)
    exact PySem.P.repr_of_none ⟨.str _, H, I.tok _, ⟨_, rfl⟩, q⟩
  | bl b =>
    cases (show u = Value.bool b from rx)
    exact PySem.P.repr_of_bool ⟨.str _, H, I.tok _, ⟨_, rfl⟩, q⟩
  | int i =>
    obtain ⟨t, rfl⟩ := rx
    exact PySem.P.repr_of_int (of_decide_eq_true h1) ⟨.str _, H, I.tok _, ⟨_, rfl⟩, q⟩
  | str x =>
    obtain ⟨t, rfl⟩ := rx
    exact PySem.P.repr_of_str ⟨.str _, H, I.tok _, ⟨_, rfl⟩, q⟩ h4
  | tup hs ha => exact key _ rx
  | lst hs _ _ ha => exact key _ rx
  | dct hs _ _ h1 h2 => exact key _ rx
end
end L3

namespace L3
open PySem PySem.Spec PyProof.Rows L2
section
variable {K : PySem.W.Frag} {m m' : List Addr} {H : Hp}
mutual
theorem Od.more {a : Addr} (h : H a = none) : ∀ {x : V} {d : PyData}, Od K m H x d → Od K (a :: m) H x d
  | _, _, .non => .non
  | _, _, .bl b => .bl b
  | _, _, .int i => .int i
  | _, _, .str x => .str x
  | _, _, .tup q t => .tup q (Ods.more h t)
  | _, _, .lst q n b t => .lst q (fun z => (List.mem_cons.mp z).elim (fun e => by rw [e, h] at q; cases q) n) b (Ods.more h t)
  | _, _, .dct q n b t u => .dct q (fun z => (List.mem_cons.mp z).elim (fun e => by rw [e, h] at q; cases q) n) b (Ods.more h t) (Ods.more h u)
theorem Ods.more {a : Addr} (h : H a = none) : ∀ {xs : List V} {ds : List PyData}, Ods K m H xs ds → Ods K (a :: m) H xs ds
  | _, _, .nil => .nil
  | _, _, .cons q t => .cons (Od.more h q) (Ods.more h t)
end
mutual
theorem Od.less (h : ∀ b ∈ m', b ∈ m) : ∀ {x : V} {d : PyData}, Od K m H x d → Od K m' H x d
  | _, _, .non => .non
  | _, _, .bl b => .bl b
  | _, _, .int i => .int i
  | _, _, .str x => .str x
  | _, _, .tup q t => .tup q (Ods.less h t)
  | _, _, .lst q n b t => .lst q (fun z => n (h _ z)) b (Ods.less h t)
  | _, _, .dct q n b t u => .dct q (fun z => n (h _ z)) b (Ods.less h t) (Ods.less h u)
theorem Ods.less (h : ∀ b ∈ m', b ∈ m) : ∀ {xs : List V} {ds : List PyData}, Ods K m H xs ds → Ods K m' H xs ds
  | _, _, .nil => .nil
  | _, _, .cons q t => .cons (Od.less h q) (Ods.less h t)
end
end
structure DR where
  p : List Addr → L2.St → Hp → Prop
  mono : ∀ {m σ H H'}, Grow [] H H' → p m σ H → p m σ H'
  more : ∀ {a m σ H}, H a = none → p m σ H → p (a :: m) σ H
def DR.t : DR := ⟨fun _ _ _ => True, fun _ _ => trivial, fun _ _ => trivial⟩
def DR.and (a b : DR) : DR := ⟨fun m σ H => a.p m σ H ∧ b.p m σ H, fun g h => ⟨a.mono g h.1, b.mono g h.2⟩, fun g h => ⟨a.more g h.1, b.more g h.2⟩⟩
def tOd (K : PySem.W.Frag) (R : DR) (D : PyData) : TE := fun σ H Q => ∃ m, R.p m σ H ∧ (∀ b ∈ m, H b ≠ none) ∧ ∀ x H', Grow [] H H' → Od K m H' x D → Q x H'
section
variable {X : Cx} {K : PySem.W.Frag} {R R' : DR} {D : PyData} {Ds : List PyData} {e : Expr} {es : List Expr} {pos : Pos} {j}
def tLstB (t : TA) : TE := fun σ H Q => t σ H fun xs H1 => xs.length ≤ sizeLine ∧ ∀ p, H1 p = none → p ≠ sysModules → Q (.ref p) (upd H1 p (.lst xs))
theorem pe_lstB {t : TA} (h : PA X es t) : PE X (.List es pos) (tLstB t) := by
  intro pins s σ H Q I hq
  refine wpAny_List_spliced (thn (h pos pins s σ H _ I hq) fun us s1 ⟨xs, H1, I1, r, z, q⟩ => ⟨by rw [← r.length]; exact z, ?_⟩)
  have hf : H1 s1.heap.objs.size = none := I1.hok.fresh (Nat.le_refl _)
  refine ⟨.ref s1.heap.objs.size, upd H1 s1.heap.objs.size (.lst xs), I1.laid (t' := s1.toks) (fun b u e => Heap.get?_push_of_some _ e) (Nat.le_refl _) ?_, rfl, q _ hf (Nat.ne_of_gt (inv_big I1))⟩
  exact ⟨z, us, 0, r, Heap.get?_push_size _ rfl⟩
theorem notMem {m : List Addr} {H : Hp} {p : Addr} (b : ∀ b ∈ m, H b ≠ none) (h : H p = none) : p ∉ m := fun z => b p z h
theorem call_listB (hK : X.K = K) : CallR X (.type "list") (fun xs H Q => ∃ p ys, xs = [.ref p] ∧ (SqL K H p ys ∨ SqT K H p ys) ∧ ∀ l, H l = none → l ≠ sysModules → Q (.ref l) (upd H l (.lst ys))) := by
  subst hK
  intro pins s σ H xs us Q I r h
  obtain ⟨p, ys, rfl, hq, q⟩ := h
  obtain ⟨u, rfl, rx⟩ := vals1 r
  cases rx
  have fin : ∀ (its : List Value), Vals ys its → ys.length ≤ sizeLine → ∀ (h' : Heap) (c' : Nat), (∀ b o', s.heap.get? b = some o' → h'.get? b = some o') →
      h'.get? s.heap.objs.size = some { cls := .type "list", dict := none, data := .seq its.toArray c', slots := #[] } → EP X pins σ Q (.ref s.heap.objs.size) { s with heap := h' } := fun its r' hz h' c' kp e =>
    ⟨.ref s.heap.objs.size, _, I.laid (t' := s.toks) kp (Nat.le_refl _) (show ObjOk X.prog X.w _ h' _ (.lst ys) from ⟨hz, its, c', r', e⟩), rfl, q _ (I.hok.fresh (Nat.le_refl _)) (Nat.ne_of_gt (inv_big I))⟩
  rcases hq with hq | hq
  · obtain ⟨its, r', pl, hz⟩ := I.list hq
    have hlen := r'.length
    obtain ⟨o, ho, hc, n, hd⟩ := pl.isList
    exact call_list_seq p (.inl rfl) ho hc hd (fun h' c' kp e => fin its r' hz h' c' kp e) (by simp only [List.size_toArray] <;> omega)
  · obtain ⟨its, r', pl, hz⟩ := I.tuple hq
    have hlen := r'.length
    obtain ⟨o, ho, hc, n, hd⟩ := pl
    exact call_list_seq p (.inr rfl) ho hc hd (fun h' c' kp e => fin its r' hz h' c' kp e) (by simp only [List.size_toArray] <;> omega)
end
def KxR (p : OKey × V) (q : Value × Value) : Prop := RelV (okV p.1) q.1 ∧ RelV p.2 q.2
structure PO2 (X : Cx) (ks : List (Option Expr)) (vs : List Expr) (R : DR) (kds : List (OKey × PyData)) : Prop where
  run : ∀ (pos : Pos) (pins : List (Addr × Obj)) (s : Shared) (σ : L2.St) (H : Hp) (m : List Addr) (Q : List (Value × Value) → Shared → Prop), Inv X pins σ H s → R.p m σ H → (∀ b ∈ m, H b ≠ none) →
    (∀ r s' H' (kxs : List (OKey × V)), Inv X pins σ H' s' → Grow [] H H' → Paired KxR kxs r → kxs.map (·.1) = kds.map (·.1) → Ods X.K m H' (kxs.map (·.2)) (kds.map (·.2)) → Q r s') →
    wpAny (model X.prog X.w) X.A (evalPairs (pairTrees ks vs X.env pos)) Q X.xe s
section
variable {X : Cx} {K : PySem.W.Frag} {R R' : DR} {D : PyData} {e k : Expr} {ks : List (Option Expr)} {vs : List Expr} {kds : List (OKey × PyData)} {pos : Pos}
theorem po_dnil : PE X (.Dict [] [] pos) (tOd K .t (.dict [])) := by
  intro pins s σ H Q I ⟨m, _, hb, q⟩
  have hf : H s.heap.objs.size = none := I.hok.fresh (Nat.le_refl _)
  refine wpAny_Dict_empty ?_
  have I1 : Inv X pins σ (upd H s.heap.objs.size (DcO s.heap.objs.size [])) { s with heap := s.heap.push { cls := .type "dict", data := .dict #[] } } :=
    I.laid (t' := s.toks) (fun b u e => Heap.get?_push_of_some _ e) (Nat.le_refl _) ⟨⟨_, _, _, Heap.get?_push_size _ rfl, rfl, rfl, .nil, .nil⟩, ⟨_, Heap.get?_push_size _ rfl⟩, fun h1 h2 hφ hk => by
      obtain ⟨o', es', n', a1, a2⟩ := hφ
      exact ⟨o', es', n', hk _ a1, a2⟩⟩
  exact ⟨.ref s.heap.objs.size, _, I1, rfl, q _ _ (Grow.new hf _) (.dct (kvs := []) (ds := []) upd_same (notMem hb hf) (Nat.ne_of_gt (inv_big I)) .nil .nil)⟩
end
end L3

namespace L3
open PySem PySem.Spec PyProof.Rows L2
def tyD : PyData → String
  | .none => "NoneType"
  | .bool _ => "bool"
  | .int _ => "int"
  | .str _ => "str"
  | .list _ => "list"
  | .tuple _ => "tuple"
  | .dict _ => "dict"
def rIsiO (K : PySem.W.Frag) : List V → Hp → VK → Prop := fun xs H Q => ∃ x d m T k, xs = [x, .ty T] ∧ Od K m H x d ∧ PySem.W.kitOne K (.type (tyD d)) (.type T) = some k ∧ Q (.bl k) H
theorem call_isiO {X : Cx} {K : PySem.W.Frag} (hK : X.K = K) : CallR X (.builtin "isinstance") (rIsiO K) := by
  subst hK
  intro pins s σ H xs us Q I r h
  obtain ⟨x, d, m, T, k, rfl, hd, e, q⟩ := h
  cases hd with
  | non => exact call_isi pins s σ H _ us Q I r ⟨_, T, _, k, rfl, rfl, e, q⟩
  | bl b => exact call_isi pins s σ H _ us Q I r ⟨_, T, _, k, rfl, rfl, e, q⟩
  | int i => exact call_isi pins s σ H _ us Q I r ⟨_, T, _, k, rfl, rfl, e, q⟩
  | str y => exact call_isi pins s σ H _ us Q I r ⟨_, T, _, k, rfl, rfl, e, q⟩
  | tup hs _ => exact call_isi pins s σ H _ us Q I r ⟨_, T, _, k, rfl, .inl ⟨rfl, _, hs⟩, e, q⟩
  | lst hs _ _ _ => exact call_isi pins s σ H _ us Q I r ⟨_, T, _, k, rfl, .inr (.inl ⟨rfl, _, SqL.of hs⟩), e, q⟩
  | @dct a kvs ds hs _ _ _ _ =>
    obtain ⟨u, w', rfl, rx, rt⟩ := vals2 r
    cases (show w' = Value.type T from rt)
    cases (show u = Value.ref a from rx)
    obtain ⟨o, es, n, e1, e2, _⟩ := DcO.at I hs
    exact PySem.W.kia_one PySem.W.kitx_dict I.kIn ⟨o, e1, e2⟩ e (fun z => nomatch z) fun tk => ⟨.bl k, H, I.tok _, rfl, q⟩
end L3

namespace L3
open PySem PySem.Spec PyProof.Rows L2
mutual
def leD (B : Int) : PyData → Bool
  | .int i => decide (-B ≤ i) && decide (i ≤ B)
  | .list xs | .tuple xs => leDs B xs
  | .dict kvs => leDk B kvs
  | .none | .bool _ | .str _ => true
def leDs (B : Int) : List PyData → Bool
  | [] => true
  | x :: xs => leD B x && leDs B xs
def leDk (B : Int) : List (PyData × PyData) → Bool
  | [] => true
  | (k, v) :: r => leD B k && leD B v && leDk B r
end
mutual
def wtO : PyData → Nat
  | .list xs | .tuple xs => wtOs xs + 3
  | .dict kvs => wtOk kvs + 3
  | .int _ => 1921
  | .none | .bool _ => 5
  | .str x => (reprText x).length
def wtOs : List PyData → Nat
  | [] => 0
  | x :: xs => wtO x + 2 + wtOs xs
def wtOk : List (PyData × PyData) → Nat
  | [] => 0
  | (k, v) :: r => wtO k + wtO v + 4 + wtOk r
end
mutual
theorem leD_mono {B B' : Int} (h : B ≤ B') : ∀ {d : PyData}, leD B d = true → leD B' d = true
  | .int i, z => by
    simp only [leD, Bool.and_eq_true, decide_eq_true_eq] at z ⊢
    omega
  | .list xs, z => leDs_mono h (xs := xs) z
  | .tuple xs, z => leDs_mono h (xs := xs) z
  | .dict kvs, z => leDk_mono h (kvs := kvs) z
  | .none, _ => rfl
  | .bool _, _ => rfl
  | .str _, _ => rfl
theorem leDs_mono {B B' : Int} (h : B ≤ B') : ∀ {xs : List PyData}, leDs B xs = true → leDs B' xs = true
  | [], _ => rfl
  | x :: xs, z => by
    have z' := Bool.and_eq_true_iff.mp (show (leD B x && leDs B xs) = true from z)
    show (leD B' x && leDs B' xs) = true
    rw [leD_mono h z'.1, leDs_mono h z'.2]; rfl
theorem leDk_mono {B B' : Int} (h : B ≤ B') : ∀ {kvs : List (PyData × PyData)}, leDk B kvs = true → leDk B' kvs = true
  | [], _ => rfl
  | (k, v) :: r, z => by
    have z' := Bool.and_eq_true_iff.mp (show (leD B k && leD B v && leDk B r) = true from z)
    have z'' := Bool.and_eq_true_iff.mp z'.1
    show (leD B' k && leD B' v && leDk B' r) = true
    rw [leD_mono h z''.1, leD_mono h z''.2, leDk_mono h z'.2]; rfl
end
theorem leDs_iff {B : Int} : ∀ {xs : List PyData}, leDs B xs = true ↔ ∀ x ∈ xs, leD B x = true
  | [] => by simp [leDs]
  | x :: xs => by simp [leDs, leDs_iff (xs := xs)]
theorem wtOs_append : ∀ {xs ys : List PyData}, wtOs (xs ++ ys) = wtOs xs + wtOs ys
  | [], ys => by simp [wtOs]
  | x :: xs, ys => by
    show wtO x + 2 + wtOs (xs ++ ys) = wtO x + 2 + wtOs xs + wtOs ys
    rw [wtOs_append]; omega
def Bg : Int := 2 ^ 1000
mutual
theorem showable_le {B : Int} (hB : B ≤ Bg) : ∀ {d : PyData}, leD B d = true → d.showable = true
  | .int i, z => by
    simp only [leD, Bool.and_eq_true, decide_eq_true_eq] at z
    have hb : Bg = 2 ^ 1000 := rfl
    show decide (i.natAbs.log2 < 1920) = true
    refine decide_eq_true ?_
    by_cases h0 : i.natAbs = 0
    · rw [h0]; decide
    · rw [Nat.log2_lt h0]
      have h1 : (i.natAbs : Int) ≤ Bg := by omega
      have h2 : i.natAbs ≤ 2 ^ 1000 := by rw [hb] at h1; exact_mod_cast h1
      exact Nat.lt_of_le_of_lt h2 (Nat.pow_lt_pow_right (by decide) (by decide))
  | .list xs, z => showableAll_le hB (xs := xs) z
  | .tuple xs, z => showableAll_le hB (xs := xs) z
  | .dict kvs, z => showableKv_le hB (kvs := kvs) z
  | .none, _ => rfl
  | .bool _, _ => rfl
  | .str _, _ => rfl
theorem showableAll_le {B : Int} (hB : B ≤ Bg) : ∀ {xs : List PyData}, leDs B xs = true → PyData.showableAll xs = true
  | [], _ => rfl
  | x :: xs, z => by
    have z' := Bool.and_eq_true_iff.mp (show (leD B x && leDs B xs) = true from z)
    show (x.showable && PyData.showableAll xs) = true
    rw [showable_le hB z'.1, showableAll_le hB z'.2]; rfl
theorem showableKv_le {B : Int} (hB : B ≤ Bg) : ∀ {kvs : List (PyData × PyData)}, leDk B kvs = true → PyData.showableKv kvs = true
  | [], _ => rfl
  | (k, v) :: r, z => by
    have z' := Bool.and_eq_true_iff.mp (show (leD B k && leD B v && leDk B r) = true from z)
    have z'' := Bool.and_eq_true_iff.mp z'.1
    show (k.showable && v.showable && PyData.showableKv r) = true
    rw [showable_le hB z''.1, showable_le hB z''.2, showableKv_le hB z'.2]; rfl
end
mutual
theorem shown_le : ∀ {d : PyData}, d.showable = true → d.shown.length ≤ wtO d
  | .none, _ => by decide
  | .bool b, _ => by cases b <;> decide
  | .int i, h => int_text_len_1921 (of_decide_eq_true h)
  | .str x, _ => Nat.le_refl _
  | .list xs, h => by
    have q := shown_les (xs := xs) h
    have l := listText_len_le (PyData.shownAll xs)
    show (listText (PyData.shownAll xs)).length ≤ wtOs xs + 3
    omega
  | .tuple xs, h => by
    have q := shown_les (xs := xs) h
    have l := tupleText_len_le (PyData.shownAll xs)
    show (tupleText (PyData.shownAll xs)).length ≤ wtOs xs + 3
    omega
  | .dict kvs, h => by
    have q := shown_lek (kvs := kvs) h
    have l := dictText_len_le (PyData.shownKv kvs)
    show (dictText (PyData.shownKv kvs)).length ≤ wtOk kvs + 3
    omega
theorem shown_les : ∀ {xs : List PyData}, PyData.showableAll xs = true → ((PyData.shownAll xs).map (·.length)).sum + 2 * (PyData.shownAll xs).length ≤ wtOs xs
  | [], _ => by decide
  | x :: xs, h => by
    have h' : (x.showable && PyData.showableAll xs) = true := h
    rw [Bool.and_eq_true] at h'
    have q1 := shown_le (d := x) h'.1
    have q2 := shown_les (xs := xs) h'.2
    show (((x.shown :: PyData.shownAll xs).map (·.length)).sum + 2 * (x.shown :: PyData.shownAll xs).length) ≤ wtO x + 2 + wtOs xs
    rw [List.map_cons, List.sum_cons, List.length_cons]
    omega
theorem shown_lek : ∀ {kvs : List (PyData × PyData)}, PyData.showableKv kvs = true → ((PyData.shownKv kvs).map (·.length)).sum + 2 * (PyData.shownKv kvs).length ≤ wtOk kvs
  | [], _ => by decide
  | (k, v) :: r, h => by
    have h' : (k.showable && v.showable && PyData.showableKv r) = true := h
    rw [Bool.and_eq_true, Bool.and_eq_true] at h'
    have q1 := shown_le (d := k) h'.1.1
    have q2 := shown_le (d := v) h'.1.2
    have q3 := shown_lek (kvs := r) h'.2
    have e : (k.shown ++ ": " ++ v.shown).length = k.shown.length + 2 + v.shown.length := by
      rw [strLen_append, strLen_append]; rfl
    show ((((k.shown ++ ": " ++ v.shown) :: PyData.shownKv r).map (·.length)).sum + 2 * ((k.shown ++ ": " ++ v.shown) :: PyData.shownKv r).length) ≤ wtO k + wtO v + 4 + wtOk r
    rw [List.map_cons, List.sum_cons, List.length_cons, e]
    omega
end

structure GdS (n k w : Nat) (ds : List PyData) : Prop where
  le : leDs (10 ^ 30 + n) ds = true
  dp : PyData.depthAll ds ≤ k
  wt : wtOs ds ≤ w
structure GdD (n k w : Nat) (d : PyData) : Prop where
  le : leD (10 ^ 30 + n) d = true
  dp : d.depth ≤ k
  wt : wtO d ≤ w
theorem leDs_append {B : Int} {a b : List PyData} (ha : leDs B a = true) (hb : leDs B b = true) : leDs B (a ++ b) = true := leDs_iff.mpr fun x hx => (List.mem_append.mp hx).elim (leDs_iff.mp ha x) (leDs_iff.mp hb x)
theorem depthAll_le {k : Nat} : ∀ {xs : List PyData}, PyData.depthAll xs ≤ k ↔ ∀ x ∈ xs, x.depth ≤ k
  | [] => by simp [PyData.depthAll]
  | x :: xs => by
    show max x.depth (PyData.depthAll xs) ≤ k ↔ _
    rw [Nat.max_le, depthAll_le (xs := xs)]
    simp
theorem GdS.append {n k w w' : Nat} {a b : List PyData} (ha : GdS n k w a) (hb : GdS n k w' b) : GdS n k (w + w') (a ++ b) :=
  ⟨leDs_append ha.le hb.le, depthAll_le.mpr fun x hx => (List.mem_append.mp hx).elim (depthAll_le.mp ha.dp x) (depthAll_le.mp hb.dp x), by rw [wtOs_append]; have := ha.wt; have := hb.wt; omega⟩
theorem GdS.sub {n k w : Nat} {a b : List PyData} (ha : GdS n k w a) (h : ∀ x ∈ b, x ∈ a) (hw : wtOs b ≤ wtOs a) : GdS n k w b :=
  ⟨leDs_iff.mpr fun x hx => leDs_iff.mp ha.le x (h x hx), depthAll_le.mpr fun x hx => depthAll_le.mp ha.dp x (h x hx), Nat.le_trans hw ha.wt⟩
theorem GdD.one {n k w : Nat} {d : PyData} (h : GdD n k w d) : GdS n k (w + 2) [d] := ⟨by show (leD _ d && true) = true; rw [h.le]; rfl, by show max d.depth 0 ≤ k; have := h.dp; omega, by show wtO d + 2 + 0 ≤ w + 2; have := h.wt; omega⟩
theorem GdS.tup {n k w : Nat} {ds : List PyData} (h : GdS n k w ds) : GdD n (k + 1) (w + 3) (.tuple ds) := ⟨h.le, Nat.succ_le_succ h.dp, Nat.add_le_add_right h.wt 3⟩
theorem GdS.lst {n k w : Nat} {ds : List PyData} (h : GdS n k w ds) : GdD n (k + 1) (w + 3) (.list ds) := ⟨h.le, Nat.succ_le_succ h.dp, Nat.add_le_add_right h.wt 3⟩
theorem GdS.mono {n n' k k' w w' : Nat} {ds : List PyData} (h : GdS n k w ds) (h1 : n ≤ n') (h2 : k ≤ k') (h3 : w ≤ w') : GdS n' k' w' ds := ⟨leDs_mono (by omega) h.le, Nat.le_trans h.dp h2, Nat.le_trans h.wt h3⟩
theorem GdD.mono {n n' k k' w w' : Nat} {d : PyData} (h : GdD n k w d) (h1 : n ≤ n') (h2 : k ≤ k') (h3 : w ≤ w') : GdD n' k' w' d := ⟨leD_mono (by omega) h.le, Nat.le_trans h.dp h2, Nat.le_trans h.wt h3⟩
theorem Bg_le {n : Nat} (h : n ≤ 1000000) : (10 : Int) ^ 30 + n ≤ Bg := by
  have h1 : (10 : Int) ^ 30 + 1000000 ≤ Bg := by decide +kernel
  omega
end L3
namespace L3
open PySem PySem.Spec PyProof.Rows L2
section
variable {K : PySem.W.Frag} {m : List Addr} {H : Hp} {x : V}
theorem Od.inv_tup {ds : List PyData} (h : Od K m H x (.tuple ds)) : ∃ a xs, x = .ref a ∧ SqT K H a xs ∧ Ods K m H xs ds := by
  cases h with
  | tup h1 h2 => exact ⟨_, _, rfl, h1, h2⟩
end
end L3
namespace L3
open PySem PySem.Spec PyProof.Rows L2
end L3

namespace L3
open PySem PySem.Spec PyProof.Rows L2
structure Call72 where
  hand : Int
  box : Int
  deed : Deed
  begun : Int
  ended : Int
  answer : Int
instance : Inhabited Call72 := ⟨⟨0, 0, ⟨0, none, none⟩, 0, 0, 0⟩⟩
def Call72.vs (c : Call72) (rd : Addr) : List V := [.int c.hand, .int c.box, .ref rd, .int c.begun, .int c.ended, .int c.answer]
def CallAt72 (K : PySem.W.Frag) (H : Hp) (x : V) (c : Call72) : Prop := ∃ r rd, x = .ref r ∧ SqT K H r (c.vs rd) ∧ SqT K H rd c.deed.vs
def CallsAt72 (K : PySem.W.Frag) (H : Hp) (x : V) (cs : List Call72) : Prop := ∃ r xs, x = .ref r ∧ SqT K H r xs ∧ AllR (CallAt72 K H) xs cs
theorem Grow.call72 {m : List Addr} {H H' : Hp} (g : Grow m H H') {K : PySem.W.Frag} {x : V} {c : Call72} (h : CallAt72 K H x c) : CallAt72 K H' x c := by
  obtain ⟨r, rd, e, h1, h2⟩ := h
  exact ⟨r, rd, e, g.sqT h1, g.sqT h2⟩
theorem Grow.callsR {m : List Addr} {H H' : Hp} (g : Grow m H H') {K : PySem.W.Frag} {xs : List V} {cs : List Call72} (h : AllR (CallAt72 K H) xs cs) : AllR (CallAt72 K H') xs cs := h.imp fun _ _ z => g.call72 z
theorem Grow.calls72 {m : List Addr} {H H' : Hp} (g : Grow m H H') {K : PySem.W.Frag} {x : V} {cs : List Call72} (h : CallsAt72 K H x cs) : CallsAt72 K H' x cs := by
  obtain ⟨r, xs, e, h1, h2⟩ := h
  exact ⟨r, xs, e, g.sqT h1, g.callsR h2⟩
structure CallOk72 (m : Nat) (c : Call72) : Prop where
  h0 : 0 ≤ c.hand
  h1 : c.hand ≤ 15
  b0 : 0 ≤ c.box
  b1 : c.box < m
  d : c.deed.Ok
  t0 : 0 ≤ c.begun
  t1 : c.begun ≤ c.ended
def cnt72 (b : Int) (cs : List Call72) : Nat := cs.countP fun c => decide (c.box = b)
structure Calls72 (m : Nat) (cs : List Call72) : Prop where
  len : cs.length ≤ 40
  ok : ∀ c ∈ cs, CallOk72 m c
  few : ∀ b : Int, cnt72 b cs ≤ 8
def cg (cs : List Call72) (k : Nat) : Call72 := cs.getD k default
theorem cg_get {cs : List Call72} {k : Nat} {c : Call72} (h : cs[k]? = some c) : cg cs k = c := by unfold cg; rw [List.getD_eq_getElem?_getD, h]; rfl
theorem cg_mem {cs : List Call72} {k : Nat} (h : k < cs.length) : cg cs k ∈ cs := by
  have := List.getElem?_eq_getElem h
  rw [cg_get this]; exact List.getElem_mem h
def kl72 (cs : List Call72) : List Nat → Bool
  | [] => true
  | k :: r => !(r.any fun j => decide ((cg cs j).ended < (cg cs k).begun)) && kl72 cs r
def kp72 (cs : List Call72) : Int → List Nat → Bool
  | _, [] => true
  | t, k :: r => if (cg cs k).ended < t then false else kp72 cs (if (cg cs k).begun > t then (cg cs k).begun else t) r
theorem kp_kl {cs : List Call72} : ∀ {ns : List Nat} {t : Int}, kp72 cs t ns = ((ns.all fun j => !decide ((cg cs j).ended < t)) && kl72 cs ns)
  | [], _ => rfl
  | k :: r, t => by
    unfold kp72 kl72
    rw [List.all_cons]
    by_cases h : (cg cs k).ended < t
    · rw [if_pos h, decide_eq_true h]; rfl
    · rw [if_neg h, decide_eq_false h, kp_kl]
      have e : (r.all fun j => !decide ((cg cs j).ended < (if (cg cs k).begun > t then (cg cs k).begun else t))) = ((r.all fun j => !decide ((cg cs j).ended < t)) && !(r.any fun j => decide ((cg cs j).ended < (cg cs k).begun))) := by
        rw [Bool.eq_iff_iff, Bool.and_eq_true, List.all_eq_true, List.all_eq_true, Bool.not_eq_true', List.any_eq_false]
        constructor
        · intro h
          refine ⟨fun j hj => ?_, fun j hj => ?_⟩
          · have := h j hj
            rw [Bool.not_eq_true', decide_eq_false_iff_not] at this ⊢
            split at this <;> omega
          · have := h j hj
            rw [Bool.not_eq_true', decide_eq_false_iff_not] at this
            rw [decide_eq_true_eq]
            split at this <;> omega
        · rintro ⟨h1, h2⟩ j hj
          have a := h1 j hj
          have b := h2 j hj
          rw [Bool.not_eq_true', decide_eq_false_iff_not] at a ⊢
          rw [decide_eq_true_eq] at b
          split <;> omega
      rw [e, Bool.and_assoc]; rfl
theorem kp_zero {cs : List Call72} {m : Nat} {ns : List Nat} (ok : ∀ c ∈ cs, CallOk72 m c) (lt : ∀ k ∈ ns, k < cs.length) : kp72 cs 0 ns = kl72 cs ns := by
  rw [kp_kl]
  have : (ns.all fun j => !decide ((cg cs j).ended < 0)) = true := by
    rw [List.all_eq_true]
    intro j hj
    have o := ok _ (cg_mem (lt j hj))
    have := o.t0; have := o.t1
    rw [Bool.not_eq_true', decide_eq_false_iff_not]; omega
  rw [this, Bool.true_and]
def an72 (cs : List Call72) : List Int → List Nat → Bool
  | _, [] => true
  | vs, k :: r => if vs.getD (cg cs k).box.toNat 0 = (cg cs k).answer then an72 cs (vs.set (cg cs k).box.toNat ((cg cs k).deed.mk' (cg cs k).answer)) r else false
theorem an_cons {cs : List Call72} {vs : List Int} {k : Nat} {r : List Nat} : an72 cs vs (k :: r) = if vs.getD (cg cs k).box.toNat 0 = (cg cs k).answer then an72 cs (vs.set (cg cs k).box.toNat ((cg cs k).deed.mk' (cg cs k).answer)) r else false := rfl
theorem getD_set72 {α : Type} {l : List α} {j : Nat} {x d : α} (h : j < l.length) : (l.set j x).getD j d = x := by rw [List.getD_eq_getElem?_getD, List.getElem?_set_self h]; rfl
theorem getD_setne72 {α : Type} {l : List α} {i j : Nat} {x d : α} (h : i ≠ j) : (l.set i x).getD j d = l.getD j d := by rw [List.getD_eq_getElem?_getD, List.getD_eq_getElem?_getD, List.getElem?_set_ne h]
def IsOrd72 (n : Nat) (d : PyData) (ns : List Nat) : Prop := d = .tuple (ns.map fun k : Nat => PyData.int (k : Int)) ∧ ns.Perm (List.range n)
theorem map_int_inj : ∀ {a b : List Nat}, (a.map fun k : Nat => PyData.int (k : Int)) = b.map (fun k : Nat => PyData.int (k : Int)) → a = b
  | [], [], _ => rfl
  | [], _ :: _, h => by cases h
  | _ :: _, [], h => by cases h
  | x :: a, y :: b, h => by
    obtain ⟨h1, h2⟩ := List.cons.inj h
    have : x = y := by injection h1 with h1; omega
    rw [this, map_int_inj h2]
theorem IsOrd72.uniq {n : Nat} {d : PyData} {ns ms : List Nat} (h : IsOrd72 n d ns) (h' : IsOrd72 n d ms) : ns = ms := by
  have := h.1.symm.trans h'.1
  injection this with this
  exact map_int_inj this
def Fit72 (b : List Int) (cs : List Call72) (d : PyData) : Prop := ∃ ns, IsOrd72 cs.length d ns ∧ kl72 cs ns = true ∧ an72 cs b ns = true
def Fl72 (d : PyData) : Prop := ∀ ds, d = .tuple ds → ds.length < 64 ∧ ∀ e ∈ ds, ∀ kvs, e ≠ .dict kvs
def NumsT (K : PySem.W.Frag) (H : Hp) (x : V) (ns : List Nat) : Prop := ∃ r, x = .ref r ∧ SqT K H r (natsV ns)
def NumsL (K : PySem.W.Frag) (H : Hp) (x : V) (ns : List Nat) : Prop := ∃ r, x = .ref r ∧ SqL K H r (natsV ns)
theorem natsV_at72 {ns : List Nat} {i : Nat} {x : V} (h : (natsV ns)[i]? = some x) : ∃ k, ns[i]? = some k ∧ x = .int k := by
  unfold natsV at h
  rw [List.getElem?_map] at h
  obtain ⟨k, hk, e⟩ := Option.map_eq_some_iff.mp h
  exact ⟨k, hk, e.symm⟩
theorem drop_at72 {ns : List Nat} {i k : Nat} (h : ns[i]? = some k) : ns.drop i = k :: ns.drop (i + 1) := by
  obtain ⟨hlt, e⟩ := List.getElem?_eq_some_iff.mp h
  rw [List.drop_eq_getElem_cons hlt, e]
theorem NumsT.grow {K : PySem.W.Frag} {H H' : Hp} {x : V} {ns : List Nat} {m : List Addr} (h : NumsT K H x ns) (g : Grow m H H') : NumsT K H' x ns := by
  obtain ⟨r, e, s⟩ := h
  exact ⟨r, e, g.sqT s⟩
theorem ods_nums {K : PySem.W.Frag} {m : List Addr} {H : Hp} : ∀ {xs : List V} {ns : List Nat}, Ods K m H xs (ns.map fun k : Nat => PyData.int (k : Int)) → xs = natsV ns
  | _, [], .nil => rfl
  | _, k :: ns, .cons (.int _) t => by rw [ods_nums t]; rfl
theorem od_nums {K : PySem.W.Frag} {m : List Addr} {H : Hp} {x : V} {d : PyData} {ns : List Nat} (e : d = .tuple (ns.map fun k : Nat => PyData.int (k : Int))) (h : Od K m H x d) : NumsT K H x ns := by
  subst e
  obtain ⟨r, xs, rfl, hs, os⟩ := h.inv_tup
  exact ⟨r, rfl, by rw [← ods_nums os]; exact hs⟩
section
variable {K : PySem.W.Frag} {a : Addr} {xs : List V} {k : Nat} {te : TE} {Q : VK} {σ : L2.St} {H : Hp}
theorem comp_tupP72 (Pv : Nat → List V → Hp → Prop) (h0 : Pv 0 [] H) (hl : ∀ i ys H', Pv i ys H' → SqT K H' a xs)
    (hs : ∀ i x ys H', xs[i]? = some x → Pv i ys H' → te (σ.set k (some x)) H' fun y H5 => ys.length < sizeLine ∧ Pv (i + 1) (ys ++ [y]) H5)
    (hd : ∀ ys H', Pv xs.length ys H' → ∀ l, H' l = none → Q (.ref l) (upd H' l (.lst ys))) : CompW (Itt K a) σ H (gName k) tTrue te Q :=
  comp_tupPT (fun _ => true) Pv h0 hl (fun _ _ _ _ h => h) (fun i x ys H' hx p _ => hs i x ys H' hx p) (fun _ _ _ _ _ _ z => nomatch z) hd
end
theorem all_rep72 (n : Nat) : (List.replicate n true).all id = true := by rw [List.all_eq_true]; intro x hx; rw [(List.mem_replicate.mp hx).2]; rfl
theorem lt72 {n : Nat} (h : n ≤ 5000) : n < sizeLine := Nat.lt_of_le_of_lt h (by decide)
theorem le72 {n : Nat} (h : n ≤ 5000) : n ≤ sizeLine := Nat.le_trans h (by decide)
theorem Grow.shrinkL {H H' : Hp} {m : List Addr} (h : ∀ a ∈ m, H a = none) (g : Grow m H H') : Grow [] H H' :=
  ⟨fun b o _ q => g.keep b o (fun z => by rw [h b z] at q; cases q) q, g.tup, g.frz⟩
theorem cnt_snoc {b : Int} {cs : List Call72} {c : Call72} : cnt72 b (cs ++ [c]) = cnt72 b cs + (if c.box = b then 1 else 0) := by
  unfold cnt72
  rw [List.countP_append, List.countP_cons, List.countP_nil]
  by_cases h : c.box = b
  · rw [if_pos h, decide_eq_true h]; rfl
  · rw [if_neg h, decide_eq_false h]; rfl
theorem cnt_take {b : Int} {cs : List Call72} {i : Nat} : cnt72 b (cs.take i) ≤ cnt72 b cs := List.Sublist.countP_le (List.take_sublist i cs)
def BoxLs (H : Hp) (zs : List V) (nss : List (List Nat)) : Prop := AllR (fun z ns => ∃ a, z = .ref a ∧ H a = some (.lst (natsV ns))) zs nss
structure Bx72 (H : Hp) (as : List Addr) (nss : List (List Nat)) : Prop where
  len : nss.length = as.length
  at_ : ∀ (j : Nat) (a : Addr), as[j]? = some a → H a = some (.lst (natsV (nss.getD j [])))
theorem Bx72.ls {H : Hp} {as : List Addr} {nss : List (List Nat)} (h : Bx72 H as nss) : BoxLs H (as.map V.ref) nss := by
  refine AllR.of_get (by rw [List.length_map, h.len]) fun i x hx => ?_
  rw [List.getElem?_map] at hx
  obtain ⟨a, ha, rfl⟩ := Option.map_eq_some_iff.mp hx
  have hi : i < nss.length := by rw [h.len]; exact (List.getElem?_eq_some_iff.mp ha).1
  refine ⟨nss[i], List.getElem?_eq_getElem hi, a, rfl, ?_⟩
  rw [h.at_ i a ha, List.getD_eq_getElem?_getD, List.getElem?_eq_getElem hi]; rfl
def isT72 : PyData → Bool
  | .tuple _ => true
  | _ => false
theorem kit_tup72 {K : PySem.W.Frag} (d : PyData) : PySem.W.kitOne K (.type (tyD d)) (.type "tuple") = some (isT72 d) := by cases d <;> rfl
def isI72 : PyData → Bool
  | .int _ => true
  | _ => false
def isB72 : PyData → Bool
  | .bool _ => true
  | _ => false
theorem not_ord72 {d : PyData} (h : isT72 d = false) (n : Nat) : ¬ ∃ ns, IsOrd72 n d ns := by
  rintro ⟨ns, e, _⟩
  rw [e] at h; cases h
theorem od_tup72 {K : PySem.W.Frag} {m : List Addr} {H : Hp} {x : V} {d : PyData} (h : Od K m H x d) (ht : isT72 d = true) : ∃ r xs ds, x = .ref r ∧ d = .tuple ds ∧ SqT K H r xs ∧ Ods K m H xs ds := by
  cases h <;> first | exact ⟨_, _, _, rfl, rfl, by assumption, by assumption⟩ | cases ht
theorem od_kn72 {K : PySem.W.Frag} {m : List Addr} {H : Hp} {x : V} {d : PyData} (h : Od K m H x d) (hd : ∀ kvs, d ≠ .dict kvs) : ∃ t, TyV K H x t ∧ PySem.W.kitOne K (.type t) (.type "int") = some (isI72 d || isB72 d) ∧ PySem.W.kitOne K (.type t) (.type "bool") = some (isB72 d) ∧ wholeV x = isI72 d := by
  cases h with
  | non => exact ⟨"NoneType", rfl, rfl, rfl, rfl⟩
  | bl b => exact ⟨"bool", rfl, rfl, rfl, rfl⟩
  | int i => exact ⟨"int", rfl, rfl, rfl, rfl⟩
  | str y => exact ⟨"str", rfl, rfl, rfl, rfl⟩
  | tup hs _ => exact ⟨"tuple", .inl ⟨rfl, _, hs⟩, rfl, rfl, rfl⟩
  | lst hs _ _ _ => exact ⟨"list", .inr (.inl ⟨rfl, _, SqL.of hs⟩), rfl, rfl, rfl⟩
  | dct => exact absurd rfl (hd _)
theorem ints72 : ∀ {ds : List PyData}, ds.all isI72 = true → ∃ zs : List Int, ds = zs.map PyData.int
  | [], _ => ⟨[], rfl⟩
  | d :: ds, h => by
    rw [List.all_cons, Bool.and_eq_true] at h
    obtain ⟨zs, e⟩ := ints72 h.2
    cases d with
    | int i => exact ⟨i :: zs, by rw [e]; rfl⟩
    | _ => cases h.1
theorem ods_ints72 {K : PySem.W.Frag} {m : List Addr} {H : Hp} : ∀ {xs : List V} {zs : List Int}, Ods K m H xs (zs.map PyData.int) → xs = zs.map V.int
  | _, [], .nil => rfl
  | _, k :: ns, .cons (.int _) t => by rw [ods_ints72 t]; rfl
theorem ord_all72 {n : Nat} {ds : List PyData} (h : ∃ ns, IsOrd72 n (.tuple ds) ns) : ds.all isI72 = true := by
  obtain ⟨ns, e, _⟩ := h
  injection e with e
  rw [e, List.all_map, List.all_eq_true]
  intro k _; rfl
theorem range_pw72 (n : Nat) : ((List.range n).map fun k : Nat => (k : Int)).Pairwise (· ≤ ·) := by
  rw [List.pairwise_map]
  exact (List.pairwise_lt_range (n := n)).imp fun h => by omega
theorem ord_iff72 {n : Nat} {zs ms : List Int} (hp : ms.Perm zs) (hs : ms.Pairwise (· ≤ ·)) : ms = ((List.range n).map fun k : Nat => (k : Int)) ↔ ∃ ns, IsOrd72 n (.tuple (zs.map PyData.int)) ns := by
  constructor
  · intro e
    have hz : zs.Perm ((List.range n).map fun k : Nat => (k : Int)) := by rw [← e]; exact hp.symm
    have h0 : ∀ z ∈ zs, 0 ≤ z := fun z hz' => by
      obtain ⟨k, _, rfl⟩ := List.mem_map.mp (hz.mem_iff.mp hz')
      exact Int.natCast_nonneg k
    have ez : (zs.map Int.toNat).map (fun k : Nat => (k : Int)) = zs := by
      rw [List.map_map]
      conv => rhs; rw [← List.map_id zs]
      exact List.map_congr_left fun z hz' => Int.toNat_of_nonneg (h0 z hz')
    refine ⟨zs.map Int.toNat, ?_, ?_⟩
    · rw [show (zs.map PyData.int) = ((zs.map Int.toNat).map (fun k : Nat => (k : Int))).map PyData.int by rw [ez], List.map_map]; rfl
    · have := hz.map Int.toNat
      rw [List.map_map, show (Int.toNat ∘ fun k : Nat => (k : Int)) = id from funext fun k => Int.toNat_natCast k, List.map_id] at this
      exact this
  · rintro ⟨ns, e, hn⟩
    injection e with e
    have ez : zs = ns.map fun k : Nat => (k : Int) := by
      have : zs.map PyData.int = (ns.map fun k : Nat => (k : Int)).map PyData.int := by rw [e, List.map_map]; rfl
      exact List.map_inj_right (fun _ _ h => by injection h) |>.mp this
    refine sorted_is (hp.trans ?_) hs (range_pw72 n)
    rw [ez]
    exact hn.map _
theorem all_fl72 : ∀ ms : List Int, (ms.map V.int).all flatV = true
  | [] => rfl
  | _ :: ms => by rw [List.map_cons, List.all_cons, all_fl72 ms]; rfl
theorem natsV_ints72 (ns : List Nat) : natsV ns = (ns.map fun k : Nat => (k : Int)).map V.int := by unfold natsV; rw [List.map_map]; rfl
theorem all_fn72 (ns : List Nat) : (natsV ns).all flatV = true := by rw [natsV_ints72]; exact all_fl72 _
theorem sIx72 {n i : Nat} (h : i ≤ n) : HT.sIx n 0 (some (i : Int)) = i := by
  rw [HT.sIx_nat, Nat.min_eq_left h]
def sp_is_call72 (K : PySem.W.Frag) : Sp := sp2 fun x y H Q => ∃ b c, BoardAt K H x b ∧ CallAt72 K H y c ∧ CallOk72 b.length c ∧ ∀ H', Grow [] H H' → Q (.bl true) H'
def sp_byb72 (K : PySem.W.Frag) : Sp := sp2 fun x y H Q => ∃ b cs, BoardAt K H x b ∧ CallsAt72 K H y cs ∧ b.length ≤ 16 ∧ Calls72 b.length cs ∧
  ∀ l zs nss H', Grow [] H H' → H' l = some (.lst zs) → BoxLs H' zs nss → (∀ ns ∈ nss, ns.length ≤ 8) → zs.length ≤ 16 → Q (.ref l) H'
def sp_are72 (K : PySem.W.Frag) : Sp := sp2 fun x y H Q => ∃ b cs, BoardAt K H x b ∧ 1 ≤ b.length ∧ b.length ≤ 16 ∧ CallsAt72 K H y cs ∧ Calls72 b.length cs ∧ ∀ H', Grow [] H H' → Q (.bl true) H'
def sp_need72 (K : PySem.W.Frag) : Sp := sp2 fun x y H Q => ∃ b cs, BoardAt K H x b ∧ 1 ≤ b.length ∧ b.length ≤ 16 ∧ CallsAt72 K H y cs ∧ Calls72 b.length cs ∧ ∀ H', Grow [] H H' → Q .non H'
def sp_isord72 (K : PySem.W.Frag) : Sp := sp2 fun x y H Q => ∃ (d : PyData) (m : List Addr) (n : Nat), Od K m H x d ∧ Fl72 d ∧ NumsL K H y (List.range n) ∧ ∀ b H', Grow [] H H' → (b = true ↔ ∃ ns, IsOrd72 n d ns) → Q (.bl b) H'
def sp_lisord72 (K : PySem.W.Frag) : Sp := sp2 fun x y H Q => ∃ (d : PyData) (m : List Addr) (n : Nat), Od K m H x d ∧ Fl72 d ∧ y = .int n ∧ n ≤ 40 ∧ ∀ b H', Grow [] H H' → (b = true ↔ ∃ ns, IsOrd72 n d ns) → Q (.bl b) H'
def sp_truth72 (_ : PySem.W.Frag) : Sp := sp2 fun x y H Q => ∃ b c : Bool, x = .bl b ∧ y = .bl c ∧ Q (.bl (b == c)) H
def sp_ans72 (K : PySem.W.Frag) : Sp := sp3 fun x y z H Q => ∃ b cs ns, BoardAt K H x b ∧ CallsAt72 K H y cs ∧ NumsT K H z ns ∧ (∀ c ∈ cs, CallOk72 b.length c) ∧ (∀ k ∈ ns, k < cs.length) ∧ ∀ H', Grow [] H H' → Q (.bl (an72 cs b ns)) H'
def sp_keep72 (K : PySem.W.Frag) : Sp := sp2 fun x y H Q => ∃ cs ns, CallsAt72 K H x cs ∧ NumsT K H y ns ∧ (∃ m, ∀ c ∈ cs, CallOk72 m c) ∧ (∀ k ∈ ns, k < cs.length) ∧ ns.length ≤ 40 ∧ ∀ H', Grow [] H H' → Q (.bl (kl72 cs ns)) H'
def sp_these72 (K : PySem.W.Frag) : Sp := sp4 fun x y z u H Q => ∃ (b : List Int) (cs : List Call72) (d : PyData) (m : List Addr), BoardAt K H x b ∧ CallsAt72 K H y cs ∧ NumsL K H z (List.range cs.length) ∧ Od K m H u d ∧ Calls72 b.length cs ∧ Fl72 d ∧ ∀ bb H', Grow [] H H' → (bb = true ↔ Fit72 b cs d) → Q (.bl bb) H'
def sp_fits72 (K : PySem.W.Frag) : Sp := sp3 fun x y z H Q => ∃ (b : List Int) (cs : List Call72) (d : PyData) (m : List Addr), BoardAt K H x b ∧ 1 ≤ b.length ∧ b.length ≤ 16 ∧ CallsAt72 K H y cs ∧ Od K m H z d ∧ Calls72 b.length cs ∧ Fl72 d ∧ ∀ bb H', Grow [] H H' → (bb = true ↔ Fit72 b cs d) → Q (.bl bb) H'
theorem pot_ne72 {H : Hp} {p r : Addr} (pp : Pot H p) (h : H r = none) : r ∉ [p] := fun z => by
  rw [List.mem_singleton.mp z] at h
  obtain ⟨_, _, e, _⟩ := pp
  rw [e] at h; cases h
theorem erase_perm72 : ∀ {l : List Nat} {j : Nat} (h : j < l.length), (l[j] :: l.eraseIdx j).Perm l
  | [], _, h => absurd h (by simp)
  | a :: l, 0, _ => List.Perm.refl _
  | a :: l, j + 1, h => (List.Perm.swap a _ _).trans ((erase_perm72 (l := l) (j := j) (by simpa using h)).cons a)
theorem erase_map72 : ∀ {l : List Nat} {j : Nat}, (natsV l).eraseIdx j = natsV (l.eraseIdx j)
  | [], _ => rfl
  | _ :: _, 0 => rfl
  | a :: l, j + 1 => congrArg (V.int a :: ·) (erase_map72 (l := l) (j := j))
def sp_at72 (K : PySem.W.Frag) : Sp := sp2 fun x y H Q => ∃ a ns k, x = .ref a ∧ y = .int k ∧ Scr K H a ns ∧ 0 ≤ k ∧ ∀ n : Int, (n = 0 ∨ n ∈ ns) → Q (.int n) H
def sp_shuf72 (K : PySem.W.Frag) : Sp := sp2 fun x y H Q => ∃ (p : Addr) (ns : List Nat), x = .ref p ∧ Pot H p ∧ (∃ r, y = .ref r ∧ (SqL K H r (natsV ns) ∨ SqT K H r (natsV ns))) ∧ ns.length ≤ 40 ∧ ∀ l ms H', ms.Perm ns → Grow [p] H H' → Pot H' p → H l = none → l ≠ p → H' l = some (.lst (natsV ms)) → Q (.ref l) H'
def N27 (n : Int) : Prop := -(10 ^ 27) ≤ n ∧ n ≤ 10 ^ 27
def sp_num72 (_ : PySem.W.Frag) : Sp := sp2 fun x y H Q => ∃ (p : Addr) (b : Bool), x = .ref p ∧ y = .bl b ∧ Pot H p ∧ ∀ n H', N27 n → Grow [p] H H' → Pot H' p → Q (.int n) H'
def sp_deed72 (K : PySem.W.Frag) : Sp := sp2 fun x y H Q => ∃ (p : Addr) (b : Bool), x = .ref p ∧ y = .bl b ∧ Pot H p ∧ ∀ d v H', d.Ok → d.Bd (10 ^ 27 + 6) → Grow [p] H H' → Pot H' p → DeedAt K H' v d → Q v H'
def sp_times72 (K : PySem.W.Frag) : Sp := sp3 fun x y z H Q => ∃ (p : Addr) (mo sc : Int), x = .ref p ∧ y = .int mo ∧ z = .int sc ∧ Pot H p ∧ 0 ≤ mo ∧ mo ≤ 200 ∧ 1 ≤ sc ∧ sc ≤ 10 ^ 25 ∧
  ∀ (be en : Int) (r : Addr) H', 0 ≤ be → be ≤ mo * sc → mo * sc ≤ en → en ≤ (mo + 3) * sc → Grow [p] H H' → Pot H' p → SqT K H' r [.int be, .int en] → Q (.ref r) H'
def sp_size72 (_ : PySem.W.Frag) : Sp := sp2 fun x y H Q => ∃ (p : Addr) (n : Nat), x = .ref p ∧ y = .int n ∧ Pot H p ∧ 1 ≤ n ∧ n ≤ 6 ∧ ∀ (m : Nat) H', m ≤ 8 * n → m ≤ 40 → Grow [p] H H' → Pot H' p → Q (.int m) H'
end L3

namespace L3
open PySem PySem.Spec PyProof.Rows L2
def kc72 : List Call72 → Bool
  | [] => true
  | c :: r => !(r.any fun e => decide (e.ended < c.begun)) && kc72 r
def pl72 : List Int → List Call72 → Option (List Int)
  | vs, [] => some vs
  | vs, c :: r => if vs.getD c.box.toNat 0 = c.answer then pl72 (vs.set c.box.toNat (c.deed.mk' c.answer)) r else none
theorem kl_kc {cs : List Call72} : ∀ {ns : List Nat}, kl72 cs ns = kc72 (ns.map (cg cs))
  | [] => rfl
  | k :: r => by
    show (!(r.any fun j => decide ((cg cs j).ended < (cg cs k).begun)) && kl72 cs r) = (!((r.map (cg cs)).any fun e => decide (e.ended < (cg cs k).begun)) && kc72 (r.map (cg cs)))
    rw [kl_kc, List.any_map]; rfl
theorem an_pl {cs : List Call72} : ∀ {ns : List Nat} {vs : List Int}, an72 cs vs ns = (pl72 vs (ns.map (cg cs))).isSome
  | [], _ => rfl
  | k :: r, vs => by
    rw [an_cons]
    show _ = (if vs.getD (cg cs k).box.toNat 0 = (cg cs k).answer then pl72 (vs.set (cg cs k).box.toNat ((cg cs k).deed.mk' (cg cs k).answer)) (r.map (cg cs)) else none).isSome
    split
    · exact an_pl
    · rfl
theorem kc_snoc {c : Call72} : ∀ {cs : List Call72}, kc72 cs = true → (∀ e ∈ cs, e.begun ≤ c.ended) → kc72 (cs ++ [c]) = true
  | [], _, _ => rfl
  | e :: r, h, hb => by
    have h' : (!(r.any fun x => decide (x.ended < e.begun)) && kc72 r) = true := h
    rw [Bool.and_eq_true, Bool.not_eq_true'] at h'
    show (!((r ++ [c]).any fun x => decide (x.ended < e.begun)) && kc72 (r ++ [c])) = true
    rw [List.any_append, h'.1, kc_snoc h'.2 fun x hx => hb x (List.mem_cons_of_mem _ hx)]
    have := hb e (List.mem_cons_self ..)
    rw [List.any_cons, decide_eq_false (by omega)]; rfl
theorem pl_snoc {c : Call72} : ∀ {cs : List Call72} {vs ws : List Int}, pl72 vs cs = some ws → ws.getD c.box.toNat 0 = c.answer → pl72 vs (cs ++ [c]) = some (ws.set c.box.toNat (c.deed.mk' c.answer))
  | [], vs, ws, h, ha => by
    cases h
    show (if vs.getD c.box.toNat 0 = c.answer then _ else none) = _
    rw [if_pos ha]; rfl
  | e :: r, vs, ws, h, ha => by
    have h' : (if vs.getD e.box.toNat 0 = e.answer then pl72 (vs.set e.box.toNat (e.deed.mk' e.answer)) r else none) = some ws := h
    show (if vs.getD e.box.toNat 0 = e.answer then pl72 (vs.set e.box.toNat (e.deed.mk' e.answer)) (r ++ [c]) else none) = _
    by_cases hv : vs.getD e.box.toNat 0 = e.answer
    · rw [if_pos hv] at h' ⊢
      exact pl_snoc h' ha
    · rw [if_neg hv] at h'; cases h'
structure Cb72 (B : Int) (c : Call72) : Prop where
  hand : -B ≤ c.hand ∧ c.hand ≤ B
  box : -B ≤ c.box ∧ c.box ≤ B
  deed : c.deed.Bd B
  begun : -B ≤ c.begun ∧ c.begun ≤ B
  ended : -B ≤ c.ended ∧ c.ended ≤ B
  answer : -B ≤ c.answer ∧ c.answer ≤ B
structure Hist72 (n : Nat) (b : List Int) (cs : List Call72) : Prop where
  bl : b.length = n
  bb : ∀ v ∈ b, N27 v
  ok : Calls72 n cs
  bd : ∀ c ∈ cs, Cb72 (10 ^ 29) c
  kc : kc72 cs = true
  pl : (pl72 b cs).isSome = true
theorem cnt_zero {m : Nat} {cs : List Call72} (ok : ∀ c ∈ cs, CallOk72 m c) {b : Int} (h : ¬ (0 ≤ b ∧ b < m)) : cnt72 b cs = 0 := by
  unfold cnt72
  rw [List.countP_eq_zero]
  intro c hc
  have := (ok c hc).b0; have := (ok c hc).b1
  rw [decide_eq_true_eq]
  omega
theorem cnt_perm {b : Int} {cs ds : List Call72} (h : cs.Perm ds) : cnt72 b cs = cnt72 b ds := h.countP_eq _
theorem Calls72.perm {m : Nat} {cs ds : List Call72} (h : Calls72 m cs) (p : ds.Perm cs) : Calls72 m ds := ⟨by rw [p.length_eq]; exact h.len, fun c hc => h.ok c (p.mem_iff.mp hc), fun b => by rw [cnt_perm p]; exact h.few b⟩
theorem inv_range {ms : List Nat} (nd : ms.Nodup) : ms.map (fun j => ms.idxOf j) = List.range ms.length := by
  refine List.ext_getElem (by rw [List.length_map, List.length_range]) fun i h1 h2 => ?_
  rw [List.getElem_map, List.getElem_range]
  exact nd.idxOf_getElem i (by rw [List.length_map] at h1; exact h1)
theorem mixed_perm {ms : List Nat} {n : Nat} (h : ms.Perm (List.range n)) : ((List.range n).map fun j => ms.idxOf j).Perm (List.range n) := by
  have nd : ms.Nodup := h.nodup_iff.mpr List.nodup_range
  have := h.symm.map fun j => ms.idxOf j
  rw [inv_range nd, h.length_eq, List.length_range] at this
  exact this
theorem map_cg {cs : List Call72} : (List.range cs.length).map (cg cs) = cs := by
  refine List.ext_getElem (by rw [List.length_map, List.length_range]) fun i h1 h2 => ?_
  rw [List.getElem_map, List.getElem_range]
  exact cg_get (List.getElem?_eq_getElem h2)
theorem mixed_cg {ms : List Nat} {cs : List Call72} (h : ms.Perm (List.range cs.length)) : ((List.range cs.length).map fun j => ms.idxOf j).map (cg (ms.map (cg cs))) = cs := by
  conv => rhs; rw [← map_cg (cs := cs)]
  rw [List.map_map]
  refine List.map_congr_left fun j hj => ?_
  have hm : j ∈ ms := h.mem_iff.mpr hj
  have hi := List.idxOf_lt_length_of_mem hm
  show cg (ms.map (cg cs)) (ms.idxOf j) = cg cs j
  rw [cg_get (c := cg cs j)]
  rw [List.getElem?_map, List.getElem?_eq_getElem hi, List.getElem_idxOf hi]; rfl
theorem mixed_calls {ms : List Nat} {cs : List Call72} (h : ms.Perm (List.range cs.length)) : (ms.map (cg cs)).Perm cs := by
  have := h.map (cg cs)
  rw [map_cg] at this
  exact this
theorem hist_fit {n : Nat} {b : List Int} {cs : List Call72} {ms : List Nat} (h : Hist72 n b cs) (hp : ms.Perm (List.range cs.length)) : Fit72 b (ms.map (cg cs)) (.tuple (((List.range cs.length).map fun j => ms.idxOf j).map fun k : Nat => PyData.int (k : Int))) := by
  have hl : (ms.map (cg cs)).length = cs.length := by rw [List.length_map, hp.length_eq, List.length_range]
  refine ⟨_, ⟨rfl, by rw [hl]; exact mixed_perm hp⟩, ?_, ?_⟩
  · rw [kl_kc, mixed_cg hp]; exact h.kc
  · rw [an_pl, mixed_cg hp]; exact h.pl
theorem Grow.shrinkTo {H H' : Hp} {m m' : List Addr} (h : ∀ a ∈ m, a ∈ m' ∨ H a = none) (g : Grow m H H') : Grow m' H H' :=
  ⟨fun b o hb q => g.keep b o (fun z => by rcases h b z with h | h; exact hb h; rw [h] at q; cases q) q, g.tup, g.frz⟩
theorem rep_flat (n : Nat) : (List.replicate n [V.int 8]).flatten = natsV (List.replicate n 8) := by
  induction n with
  | zero => rfl
  | succ n ih => rw [List.replicate_succ, List.flatten_cons, ih]; rfl
theorem sum_rep (n : Nat) : (List.replicate n 8).sum = 8 * n := by
  induction n with
  | zero => rfl
  | succ n ih => rw [List.replicate_succ, List.sum_cons, ih]; omega
theorem sum_set : ∀ {l : List Nat} {j x : Nat}, l[j]? = some x → 0 < x → (l.set j (x - 1)).sum + 1 = l.sum
  | [], _, _, h, _ => by cases h
  | a :: l, 0, x, h, h0 => by
    have e : a = x := Option.some.inj h
    subst e
    show a - 1 + l.sum + 1 = a + l.sum
    omega
  | a :: l, j + 1, x, h, h0 => by
    have := sum_set (l := l) (j := j) h h0
    show a + (l.set j (x - 1)).sum + 1 = a + l.sum
    omega
theorem sum_pos72 : ∀ {l : List Nat}, 0 < l.sum → ∃ x ∈ l, 0 < x
  | [], h => absurd h (by simp)
  | a :: l, h => by
    rcases Nat.eq_zero_or_pos a with e | e
    · have h' : 0 < a + l.sum := h
      obtain ⟨x, hx, h0⟩ := sum_pos72 (l := l) (by omega)
      exact ⟨x, List.mem_cons_of_mem _ hx, h0⟩
    · exact ⟨a, List.mem_cons_self .., e⟩
structure HI72 (n i : Nat) (b vs : List Int) (rs : List Nat) (cs : List Call72) (mo sc : Int) : Prop where
  vl : vs.length = n
  rl : rs.length = n
  cl : cs.length = i
  pl : pl72 b cs = some vs
  kc : kc72 cs = true
  ok : ∀ c ∈ cs, CallOk72 n c
  rm : ∀ j, j < n → rs.getD j 0 + cnt72 j cs = 8
  sm : rs.sum + i = 8 * n
  vb : ∀ v ∈ vs, -(10 ^ 27 + i * (10 ^ 27 + 6)) ≤ v ∧ v ≤ 10 ^ 27 + i * (10 ^ 27 + 6)
  bd : ∀ c ∈ cs, Cb72 (10 ^ 29) c
  m0 : 0 ≤ mo
  m1 : mo ≤ 2 * i
  bg : ∀ c ∈ cs, c.begun ≤ mo * sc
theorem HI72.hist {n i : Nat} {b vs : List Int} {rs : List Nat} {cs : List Call72} {mo sc : Int} (h : HI72 n i b vs rs cs mo sc) (i40 : i ≤ 40) (bl : b.length = n) (bb : ∀ v ∈ b, N27 v) : Hist72 n b cs := by
  refine ⟨bl, bb, ⟨by rw [h.cl]; exact i40, h.ok, fun x => ?_⟩, h.bd, h.kc, by rw [h.pl]; rfl⟩
  by_cases hx : 0 ≤ x ∧ x < n
  · have := h.rm x.toNat (by omega)
    rw [show ((x.toNat : Nat) : Int) = x from by omega] at this
    omega
  · rw [cnt_zero h.ok hx]; exact Nat.zero_le _
theorem HI72.start {n : Nat} {b : List Int} {sc : Int} (bl : b.length = n) (bb : ∀ v ∈ b, N27 v) : HI72 n 0 b b (List.replicate n 8) [] 0 sc := by
  refine ⟨bl, List.length_replicate, rfl, rfl, rfl, (fun _ h => nomatch h), fun j hj => ?_, (by rw [sum_rep]; rfl), fun v hv => ?_, (fun _ h => nomatch h), (by decide), (by decide), (fun _ h => nomatch h)⟩
  · rw [List.getD_eq_getElem?_getD, List.getElem?_replicate, if_pos hj]; rfl
  · have := bb v hv
    unfold N27 at this
    omega
theorem HI72.next {n i : Nat} {b vs : List Int} {rs : List Nat} {cs : List Call72} {mo sc : Int} (h : HI72 n i b vs rs cs mo sc) {bx x : Nat} {t ha be en : Int} {d : Deed} (i40 : i < 40) (n6 : n ≤ 6)
    (hx : rs[bx]? = some x) (x0 : 0 < x) (t0 : 0 ≤ t) (t1 : t ≤ 2) (s0 : 1 ≤ sc) (s1 : sc ≤ 10 ^ 24 + 7) (h0 : 0 ≤ ha) (h1 : ha ≤ 15) (od : d.Ok) (bd : d.Bd (10 ^ 27 + 6)) (e0 : 0 ≤ be) (e1 : be ≤ (mo + t) * sc) (e2 : (mo + t) * sc ≤ en) (e3 : en ≤ (mo + t + 3) * sc) :
    HI72 n (i + 1) b (vs.set bx (d.mk' (vs.getD bx 0))) (rs.set bx (x - 1)) (cs ++ [⟨ha, bx, d, be, en, vs.getD bx 0⟩]) (mo + t) sc := by
  have hbx : bx < n := by rw [← h.rl]; exact (List.getElem?_eq_some_iff.mp hx).1
  have hv : vs.getD bx 0 ∈ vs := by
    have hb : bx < vs.length := by rw [h.vl]; exact hbx
    rw [List.getD_eq_getElem?_getD, List.getElem?_eq_getElem hb]; exact List.getElem_mem hb
  have vb := h.vb _ hv
  have mm : mo * sc ≤ (mo + t) * sc := Int.mul_le_mul_of_nonneg_right (by omega) (by omega)
  have m1 := h.m1
  have m0 := h.m0
  have big : (mo + t + 3) * sc ≤ 10 ^ 27 := by
    have : (mo + t + 3) * sc ≤ 90 * (10 ^ 24 + 7) := Int.mul_le_mul (by omega) s1 (by omega) (by decide)
    exact Int.le_trans this (by decide)
  have C0 : (0 : Int) ≤ 10 ^ 27 + i * (10 ^ 27 + 6) := by omega
  have mk := mk_bd bd (by decide) vb.1 vb.2 C0
  have nb : (⟨ha, bx, d, be, en, vs.getD bx 0⟩ : Call72).box.toNat = bx := Int.toNat_natCast bx
  refine ⟨by rw [List.length_set, h.vl], by rw [List.length_set, h.rl], by rw [List.length_append, List.length_singleton, h.cl], ?_, ?_, ?_, ?_, ?_, ?_, ?_, by omega, by omega, ?_⟩
  · have := pl_snoc (c := ⟨ha, bx, d, be, en, vs.getD bx 0⟩) h.pl (by rw [nb])
    rw [this, nb]
  · exact kc_snoc h.kc fun e he => by have := h.bg e he; show e.begun ≤ en; omega
  · intro c hc
    rcases List.mem_append.mp hc with hc | hc
    · exact h.ok c hc
    · rw [List.mem_singleton.mp hc]
      exact ⟨h0, h1, Int.natCast_nonneg bx, by show (bx : Int) < n; omega, od, e0, by show be ≤ en; omega⟩
  · intro j hj
    rw [cnt_snoc]
    have r := h.rm j hj
    by_cases e : j = bx
    · subst e
      rw [getD_set72 (by rw [h.rl]; exact hj), if_pos rfl]
      rw [List.getD_eq_getElem?_getD, hx] at r
      have : x + cnt72 j cs = 8 := r
      omega
    · rw [getD_setne72 (fun z => e z.symm), if_neg (by show ¬ (bx : Int) = j; omega)]
      exact r
  · have := sum_set hx x0
    have := h.sm
    omega
  · intro v hv'
    rcases List.mem_or_eq_of_mem_set hv' with hv' | rfl
    · have := h.vb v hv'
      push_cast at this ⊢
      omega
    · push_cast
      omega
  · intro c hc
    rcases List.mem_append.mp hc with hc | hc
    · exact h.bd c hc
    · rw [List.mem_singleton.mp hc]
      refine ⟨?_, ?_, ?_, ?_, ?_, ?_⟩
      · show -(10 ^ 29) ≤ ha ∧ ha ≤ 10 ^ 29; omega
      · show -(10 ^ 29) ≤ (bx : Int) ∧ (bx : Int) ≤ 10 ^ 29; omega
      · exact bd.mono (by decide)
      · show -(10 ^ 29) ≤ be ∧ be ≤ 10 ^ 29; omega
      · show -(10 ^ 29) ≤ en ∧ en ≤ 10 ^ 29; omega
      · show -(10 ^ 29) ≤ vs.getD bx 0 ∧ vs.getD bx 0 ≤ 10 ^ 29; omega
  · intro c hc
    rcases List.mem_append.mp hc with hc | hc
    · have := h.bg c hc; omega
    · rw [List.mem_singleton.mp hc]; exact e1
theorem split_at72 {α : Type} {l : List α} {i : Nat} {c : α} (h : l[i]? = some c) : l = l.take i ++ [c] ++ l.drop (i + 1) := by
  obtain ⟨hlt, e⟩ := List.getElem?_eq_some_iff.mp h
  conv => lhs; rw [← List.take_append_drop i l, List.drop_eq_getElem_cons hlt, e]
  rw [List.append_assoc]; rfl
theorem cnt_app {b : Int} {a d : List Call72} : cnt72 b (a ++ d) = cnt72 b a + cnt72 b d := List.countP_append
theorem cnt_one {b : Int} {c : Call72} : cnt72 b [c] = if c.box = b then 1 else 0 := by
  have := cnt_snoc (b := b) (cs := []) (c := c)
  rw [List.nil_append] at this
  rw [this]; exact Nat.zero_add _
theorem Calls72.spoil {n i : Nat} {cs : List Call72} {c c' : Call72} (h : Calls72 n cs) (hi : cs[i]? = some c) (hb : c'.box = c.box) (ok : CallOk72 n c') : Calls72 n (cs.take i ++ [c'] ++ cs.drop (i + 1)) := by
  have e := split_at72 hi
  refine ⟨?_, fun x hx => ?_, fun b => ?_⟩
  · have := congrArg List.length e
    rw [List.length_append, List.length_append, List.length_singleton] at this ⊢
    have := h.len
    omega
  · rcases List.mem_append.mp hx with hx | hx
    · rcases List.mem_append.mp hx with hx | hx
      · exact h.ok x (List.mem_of_mem_take hx)
      · rw [List.mem_singleton.mp hx]; exact ok
    · exact h.ok x (List.mem_of_mem_drop hx)
  · have f := h.few b
    rw [e, cnt_app, cnt_app, cnt_one] at f
    rw [cnt_app, cnt_app, cnt_one, hb]
    exact f
theorem Cb72.mono {B C : Int} {c : Call72} (h : Cb72 B c) (hB : B ≤ C) : Cb72 C c := ⟨by have := h.hand; omega, by have := h.box; omega, h.deed.mono hB, by have := h.begun; omega, by have := h.ended; omega, by have := h.answer; omega⟩
theorem op_eqNilT72 {X : Cx} {K : PySem.W.Frag} {k : Nat} (hK : X.K = K) (hr : Room k X.A) : OpR X (compareOp .Eq) (fun x y H Q => ∃ a b xs, x = .ref a ∧ y = .ref b ∧ SqT K H a xs ∧ SqT K H b [] ∧ Q (.bl xs.isEmpty) H) := by
  subst hK
  intro pins s σ H x y v u Q I rx ry h
  obtain ⟨a, b, xs, rfl, rfl, ha, hb, q⟩ := h
  cases rx; cases ry
  obtain ⟨us, r1, t1, _⟩ := I.tuple ha
  obtain ⟨ws, r2, t2, _⟩ := I.tuple hb
  have hw : ws.length = 0 := r2.length.symm
  refine SeqAt.eq_tupleAt (e := fun _ => true) (isTuple_of t1) (isTuple_of t2) hr.units0 (fun j h1 h2 => absurd h2 (by simp; omega)) ?_
  have e : ((List.range (min us.toArray.size ws.toArray.size)).all (fun _ => true) && us.toArray.size == ws.toArray.size) = xs.isEmpty := by
    rw [List.size_toArray, List.size_toArray, hw, ← r1.length]
    cases xs with
    | nil => rfl
    | cons a r => simp
  rw [e]
  exact ⟨.bl _, H, I, rfl, q⟩
def callD (c : Call72) : PyData := .tuple [.int c.hand, .int c.box, deedD c.deed, .int c.begun, .int c.ended, .int c.answer]
theorem od_board72 {K : PySem.W.Frag} {m : List Addr} {H : Hp} {x : V} {b : List Int} (h : BoardAt K H x b) : Od K m H x (.tuple (b.map PyData.int)) := by
  obtain ⟨r, rfl, hs⟩ := h
  refine .tup hs ?_
  clear hs
  induction b with
  | nil => exact .nil
  | cons a b ih => exact .cons (.int a) ih
theorem od_oD72 {K : PySem.W.Frag} {m : List Addr} {H : Hp} : ∀ {o : Option Int}, Od K m H (ov o) (oD o)
  | none => .non
  | some _ => .int _
theorem od_call72 {K : PySem.W.Frag} {m : List Addr} {H : Hp} {x : V} {c : Call72} (h : CallAt72 K H x c) : Od K m H x (callD c) := by
  obtain ⟨r, rd, rfl, h1, h2⟩ := h
  exact .tup h1 (.cons (.int _) (.cons (.int _) (.cons (.tup h2 (.cons (.int _) (.cons od_oD72 (.cons od_oD72 .nil)))) (.cons (.int _) (.cons (.int _) (.cons (.int _) .nil))))))
theorem ods_calls72 {K : PySem.W.Frag} {m : List Addr} {H : Hp} : ∀ {xs : List V} {cs : List Call72}, AllR (CallAt72 K H) xs cs → Ods K m H xs (cs.map callD)
  | [], [], _ => .nil
  | [], _ :: _, h => h.elim
  | _ :: _, [], h => h.elim
  | _ :: _, _ :: _, h => .cons (od_call72 h.1) (ods_calls72 h.2)
theorem od_calls72 {K : PySem.W.Frag} {m : List Addr} {H : Hp} {x : V} {cs : List Call72} (h : CallsAt72 K H x cs) : Od K m H x (.tuple (cs.map callD)) := by
  obtain ⟨r, xs, rfl, h1, h2⟩ := h
  exact .tup h1 (ods_calls72 h2)
theorem wt_le72 {w : Nat} : ∀ {ds : List PyData}, (∀ d ∈ ds, wtO d ≤ w) → wtOs ds ≤ ds.length * (w + 2)
  | [], _ => by simp [wtOs]
  | d :: ds, h => by
    have h1 := h d (List.mem_cons_self ..)
    have h2 := wt_le72 (ds := ds) fun e he => h e (List.mem_cons_of_mem _ he)
    show wtO d + 2 + wtOs ds ≤ (ds.length + 1) * (w + 2)
    rw [Nat.succ_mul]; omega
theorem le_int72 {B : Int} {i : Int} (h : -B ≤ i ∧ i ≤ B) : leD B (.int i) = true := by
  show (decide (-B ≤ i) && decide (i ≤ B)) = true
  rw [decide_eq_true h.1, decide_eq_true h.2]; rfl
theorem le_oD72 {B : Int} {o : Option Int} (h : ∀ l, o = some l → -B ≤ l ∧ l ≤ B) : leD B (oD o) = true := by
  cases o with
  | none => rfl
  | some l => exact le_int72 (h l rfl)
theorem le_call72 {B : Int} {c : Call72} (h : Cb72 B c) : leD B (callD c) = true := by
  show leDs B [.int c.hand, .int c.box, deedD c.deed, .int c.begun, .int c.ended, .int c.answer] = true
  have e : leD B (deedD c.deed) = true := by
    show leDs B [.int c.deed.add, oD c.deed.lo, oD c.deed.hi] = true
    rw [leDs_iff]
    intro x hx
    rcases List.mem_cons.mp hx with rfl | hx
    · exact le_int72 h.deed.1
    rcases List.mem_cons.mp hx with rfl | hx
    · exact le_oD72 h.deed.2.1
    rw [List.mem_singleton.mp hx]; exact le_oD72 h.deed.2.2
  rw [leDs_iff]
  intro x hx
  rcases List.mem_cons.mp hx with rfl | hx
  · exact le_int72 h.hand
  rcases List.mem_cons.mp hx with rfl | hx
  · exact le_int72 h.box
  rcases List.mem_cons.mp hx with rfl | hx
  · exact e
  rcases List.mem_cons.mp hx with rfl | hx
  · exact le_int72 h.begun
  rcases List.mem_cons.mp hx with rfl | hx
  · exact le_int72 h.ended
  rw [List.mem_singleton.mp hx]; exact le_int72 h.answer
theorem dp_oD72 (o : Option Int) : (oD o).depth = 0 := by cases o <;> rfl
theorem wt_oD72 : ∀ o : Option Int, wtO (oD o) ≤ 1921
  | none => by decide
  | some _ => Nat.le_refl _
theorem dp_call72 (c : Call72) : (callD c).depth ≤ 2 := by
  show (PyData.tuple [.int c.hand, .int c.box, deedD c.deed, .int c.begun, .int c.ended, .int c.answer]).depth ≤ 2
  have e : (deedD c.deed).depth ≤ 1 := by
    show PyData.depthAll [.int c.deed.add, oD c.deed.lo, oD c.deed.hi] + 1 ≤ 1
    have : PyData.depthAll [.int c.deed.add, oD c.deed.lo, oD c.deed.hi] ≤ 0 := depthAll_le.mpr fun x hx => by
      rcases List.mem_cons.mp hx with rfl | hx
      · exact Nat.le_refl _
      rcases List.mem_cons.mp hx with rfl | hx
      · rw [dp_oD72]; exact Nat.le_refl _
      rw [List.mem_singleton.mp hx, dp_oD72]; exact Nat.le_refl _
    omega
  show PyData.depthAll [.int c.hand, .int c.box, deedD c.deed, .int c.begun, .int c.ended, .int c.answer] + 1 ≤ 2
  have : PyData.depthAll [.int c.hand, .int c.box, deedD c.deed, .int c.begun, .int c.ended, .int c.answer] ≤ 1 := depthAll_le.mpr fun x hx => by
    rcases List.mem_cons.mp hx with rfl | hx
    · exact Nat.zero_le _
    rcases List.mem_cons.mp hx with rfl | hx
    · exact Nat.zero_le _
    rcases List.mem_cons.mp hx with rfl | hx
    · exact e
    rcases List.mem_cons.mp hx with rfl | hx
    · exact Nat.zero_le _
    rcases List.mem_cons.mp hx with rfl | hx
    · exact Nat.zero_le _
    rw [List.mem_singleton.mp hx]; exact Nat.zero_le _
  omega
theorem wt_call72 (c : Call72) : wtO (callD c) ≤ 20000 := by
  have h1 := wt_oD72 c.deed.lo
  have h2 := wt_oD72 c.deed.hi
  have e : wtO (callD c) = 1921 + 2 + (1921 + 2 + ((1921 + 2 + (wtO (oD c.deed.lo) + 2 + (wtO (oD c.deed.hi) + 2 + 0)) + 3) + 2 + (1921 + 2 + (1921 + 2 + (1921 + 2 + 0))))) + 3 := rfl
  omega
def whole72 (b : List Int) (cs : List Call72) (ds : List PyData) : PyData := .tuple [.tuple (b.map PyData.int), .tuple (cs.map callD), .list ds]
theorem shows72 {b : List Int} {cs : List Call72} {ds : List PyData} (b16 : b.length ≤ 16) (bb : ∀ v ∈ b, N27 v) (c40 : cs.length ≤ 40) (bd : ∀ c ∈ cs, Cb72 (10 ^ 29 + 5) c) (d30 : ds.length ≤ 30) (hd : ∀ d ∈ ds, GdD 10 5 130000 d) :
    (whole72 b cs ds).showable = true ∧ (whole72 b cs ds).depth ≤ 60 ∧ (whole72 b cs ds).shown.length ≤ sizeLine := by
  have hB : (10 : Int) ^ 30 + 10 ≤ Bg := Bg_le (n := 10) (by decide)
  have s : (whole72 b cs ds).showable = true := by
    refine showable_le hB ?_
    show leDs _ [.tuple (b.map PyData.int), .tuple (cs.map callD), .list ds] = true
    rw [leDs_iff]
    intro x hx
    rcases List.mem_cons.mp hx with rfl | hx
    · show leDs _ (b.map PyData.int) = true
      rw [leDs_iff]
      intro y hy
      obtain ⟨v, hv, rfl⟩ := List.mem_map.mp hy
      refine le_int72 ?_
      have := bb v hv
      unfold N27 at this
      omega
    rcases List.mem_cons.mp hx with rfl | hx
    · show leDs _ (cs.map callD) = true
      rw [leDs_iff]
      intro y hy
      obtain ⟨c, hc, rfl⟩ := List.mem_map.mp hy
      exact le_call72 ((bd c hc).mono (by decide))
    rw [List.mem_singleton.mp hx]
    show leDs _ ds = true
    rw [leDs_iff]
    exact fun d h => (hd d h).le
  refine ⟨s, ?_, ?_⟩
  · show PyData.depthAll [.tuple (b.map PyData.int), .tuple (cs.map callD), .list ds] + 1 ≤ 60
    have : PyData.depthAll [.tuple (b.map PyData.int), .tuple (cs.map callD), .list ds] ≤ 10 := depthAll_le.mpr fun x hx => by
      rcases List.mem_cons.mp hx with rfl | hx
      · have : PyData.depthAll (b.map PyData.int) ≤ 0 := depthAll_le.mpr fun y hy => by
          obtain ⟨v, _, rfl⟩ := List.mem_map.mp hy
          exact Nat.le_refl _
        show PyData.depthAll (b.map PyData.int) + 1 ≤ 10
        omega
      rcases List.mem_cons.mp hx with rfl | hx
      · have : PyData.depthAll (cs.map callD) ≤ 2 := depthAll_le.mpr fun y hy => by
          obtain ⟨v, _, rfl⟩ := List.mem_map.mp hy
          exact dp_call72 v
        show PyData.depthAll (cs.map callD) + 1 ≤ 10
        omega
      rw [List.mem_singleton.mp hx]
      have : PyData.depthAll ds ≤ 5 := depthAll_le.mpr fun y hy => (hd y hy).dp
      show PyData.depthAll ds + 1 ≤ 10
      omega
    omega
  · refine Nat.le_trans (shown_le s) ?_
    have w1 := wt_le72 (w := 1921) (ds := b.map PyData.int) (fun d h => by obtain ⟨v, _, rfl⟩ := List.mem_map.mp h; exact Nat.le_refl _)
    have w2 := wt_le72 (w := 20000) (ds := cs.map callD) (fun d h => by obtain ⟨v, _, rfl⟩ := List.mem_map.mp h; exact wt_call72 v)
    have w3 := wt_le72 (w := 130000) (ds := ds) fun d h => (hd d h).wt
    rw [List.length_map] at w1 w2
    have m1 : b.length * (1921 + 2) ≤ 16 * (1921 + 2) := Nat.mul_le_mul_right _ b16
    have m2 : cs.length * (20000 + 2) ≤ 40 * (20000 + 2) := Nat.mul_le_mul_right _ c40
    have m3 : ds.length * (130000 + 2) ≤ 30 * (130000 + 2) := Nat.mul_le_mul_right _ d30
    have e : wtO (whole72 b cs ds) = (wtOs (b.map PyData.int) + 3) + 2 + ((wtOs (cs.map callD) + 3) + 2 + ((wtOs ds + 3) + 2 + 0)) + 3 := rfl
    have : (16000000 : Nat) ≤ sizeLine := by decide
    omega
def sp_hist72 (K : PySem.W.Frag) : Sp := sp4 fun x y z u H Q => ∃ (p : Addr) (n m : Nat) (w : Bool), x = .ref p ∧ y = .int n ∧ z = .int m ∧ u = .bl w ∧ Pot H p ∧ 1 ≤ n ∧ n ≤ 6 ∧ m ≤ 8 * n ∧ m ≤ 40 ∧
  ∀ (b : List Int) (cs : List Call72) (xs : List V) (r rb l : Addr) H', Hist72 n b cs → Grow [p] H H' → Pot H' p → SqT K H' r [.ref rb, .ref l] → SqT K H' rb (b.map V.int) → H' l = some (.lst xs) → l ≠ p → AllR (CallAt72 K H') xs cs → Q (.ref r) H'
def sp_spoilt72 (K : PySem.W.Frag) : Sp := sp2 fun x y H Q => ∃ (p : Addr) (cs : List Call72) (n : Nat) (B : Int), x = .ref p ∧ Pot H p ∧ CallsAt72 K H y cs ∧ Calls72 n cs ∧ (∀ c ∈ cs, Cb72 B c) ∧
  ∀ (cs' : List Call72) (v : V) H', Calls72 n cs' → (∀ c ∈ cs', Cb72 (B + 1) c) → Grow [p] H H' → Pot H' p → CallsAt72 K H' v cs' → Q v H'
def sp_told72 (K : PySem.W.Frag) : Sp := sp3 fun x y z H Q => ∃ (b : List Int) (cs : List Call72) (l : Addr) (xs : List V) (ds : List PyData) (m : List Addr), BoardAt K H x b ∧ 1 ≤ b.length ∧ b.length ≤ 16 ∧ (∀ v ∈ b, N27 v) ∧ CallsAt72 K H y cs ∧ Calls72 b.length cs ∧ (∀ c ∈ cs, Cb72 (10 ^ 29 + 5) c) ∧ z = .ref l ∧ H l = some (.lst xs) ∧ l ∉ m ∧ l ≠ sysModules ∧ Ods K m H xs ds ∧ (∀ d ∈ ds, Fl72 d ∧ GdD 10 5 130000 d) ∧ ds.length ≤ 30 ∧ ∀ H', Grow [] H H' → Q (.bl true) H'
def sp_mixed72 (K : PySem.W.Frag) : Sp := sp2 fun x y H Q => ∃ (p l : Addr) (xs : List V) (cs : List Call72), x = .ref p ∧ y = .ref l ∧ Pot H p ∧ H l = some (.lst xs) ∧ l ≠ p ∧ AllR (CallAt72 K H) xs cs ∧ cs.length ≤ 40 ∧
  ∀ (ms : List Nat) (r ro : Addr) (yc : V) H', ms.Perm (List.range cs.length) → Grow [p] H H' → Pot H' p → SqT K H' r [yc, .ref ro] → CallsAt72 K H' yc (ms.map (cg cs)) → FrT H' ro (natsV ((List.range cs.length).map fun j => ms.idxOf j)) → Q (.ref r) H'
end L3

namespace L3
open PySem PySem.Spec PyProof.Rows L2
section
variable {X : Cx} {K : PySem.W.Frag}
def rCatB72 : R2 := fun x y H Q => ∃ l b xs zs, x = .ref l ∧ y = .ref b ∧ H l = some (.lst xs) ∧ H b = some (.lst zs) ∧ xs.length + zs.length ≤ sizeLine ∧ ∀ p, H p = none → p ≠ sysModules → Q (.ref p) (upd H p (.lst (xs ++ zs)))
theorem op_catB72 : OpR X (binaryOp .Add) rCatB72 := by
  intro pins s σ H x y v u Q I rx ry h
  obtain ⟨l, b, xs, zs, rfl, rfl, hH, hB, hz, q⟩ := h
  cases rx
  cases ry
  obtain ⟨z, its, n, r, hl, e⟩ := I.lstM hH
  obtain ⟨z2, its2, n2, r2, hl2, e2⟩ := I.lstM hB
  refine PySem.P.add_list e e2 ?_ (by rw [List.size_toArray, List.size_toArray]; omega)
  have ea : its.toArray ++ its2.toArray = (its ++ its2).toArray := by simp
  rw [ea]
  exact ⟨.ref _, _, I.lnew (t' := s.toks) (r.append r2) (by rw [List.length_append]; omega), rfl, q _ I.fresh (Nat.ne_of_gt (inv_big I))⟩
end
end L3

namespace L3
open PySem PySem.Spec PyProof.Rows L2
def E72 (K : PySem.W.Frag) (p : Addr) (H : Hp) (v : V) : Prop := ∃ d, Od K [p] H v d ∧ (∀ kvs, d ≠ .dict kvs) ∧ GdD 10 2 1935 d
def G72 (K : PySem.W.Frag) (p : Addr) (H : Hp) (v : V) : Prop := ∃ d, Od K [p] H v d ∧ Fl72 d ∧ GdD 10 5 130000 d
section
variable {K : PySem.W.Frag} {p : Addr} {H H' : Hp} {v : V}
theorem E72.grow (h : E72 K p H v) (g : Grow [p] H H') : E72 K p H' v := by
  obtain ⟨d, a, b, c⟩ := h
  exact ⟨d, a.grow g, b, c⟩
theorem G72.grow (h : G72 K p H v) (g : Grow [p] H H') : G72 K p H' v := by
  obtain ⟨d, a, b, c⟩ := h
  exact ⟨d, a.grow g, b, c⟩
theorem gd_int {i : Int} (h : -(10 ^ 20) ≤ i ∧ i ≤ 10 ^ 20) : GdD 10 0 1921 (.int i) := ⟨le_int72 ⟨by omega, by omega⟩, Nat.le_refl _, Nat.le_refl _⟩
theorem E72.int {i : Int} (h : -(10 ^ 20) ≤ i ∧ i ≤ 10 ^ 20) : E72 K p H (.int i) := ⟨_, .int i, (fun _ z => nomatch z), (gd_int h).mono (by decide) (by decide) (by decide)⟩
theorem E72.non : E72 K p H .non := ⟨_, .non, (fun _ z => nomatch z), ⟨rfl, Nat.zero_le _, by decide⟩⟩
theorem E72.bl (b : Bool) : E72 K p H (.bl b) := ⟨_, .bl b, (fun _ z => nomatch z), ⟨rfl, Nat.zero_le _, by cases b <;> decide⟩⟩
theorem rep_num72 : ∀ k, k < 41 → (reprText (Str.ofString (toString ((k : Nat) : Int)))).length ≤ 10 := by decide +kernel
theorem E72.num {k : Nat} (h : k < 41) : E72 K p H (.str (Str.ofString (toString (k : Int)))) := ⟨_, .str _, (fun _ z => nomatch z), ⟨rfl, Nat.zero_le _, Nat.le_trans (rep_num72 k h) (by decide)⟩⟩
theorem E72.lst1 {l : Addr} {i : Int} (hl : H l = some (.lst [.int i])) (n1 : l ∉ [p]) (n2 : l ≠ sysModules) (h : -(10 ^ 20) ≤ i ∧ i ≤ 10 ^ 20) : E72 K p H (.ref l) := by
  refine ⟨_, .lst hl n1 n2 (.cons (.int i) .nil), (fun _ z => nomatch z), ?_⟩
  have := ((gd_int h).one).lst
  exact this.mono (by decide) (by decide) (by decide)
theorem ods72 : ∀ {vs : List V}, (∀ v ∈ vs, E72 K p H v) → ∃ ds, Ods K [p] H vs ds ∧ (∀ d ∈ ds, ∀ kvs, d ≠ .dict kvs) ∧ ∀ d ∈ ds, GdD 10 2 1935 d
  | [], _ => ⟨[], .nil, (fun _ h => nomatch h), fun _ h => nomatch h⟩
  | v :: vs, h => by
    obtain ⟨d, a, b, c⟩ := h v (List.mem_cons_self ..)
    obtain ⟨ds, o, nd, gd⟩ := ods72 fun w hw => h w (List.mem_cons_of_mem _ hw)
    refine ⟨d :: ds, .cons a o, fun e he => ?_, fun e he => ?_⟩
    · rcases List.mem_cons.mp he with rfl | he
      · exact b
      · exact nd e he
    · rcases List.mem_cons.mp he with rfl | he
      · exact c
      · exact gd e he
theorem gds72 {ds : List PyData} (hl : ds.length < 64) (gd : ∀ d ∈ ds, GdD 10 2 1935 d) : GdS 10 2 122100 ds := by
  refine ⟨leDs_iff.mpr fun d h => (gd d h).le, depthAll_le.mpr fun d h => (gd d h).dp, ?_⟩
  have := wt_le72 (w := 1935) fun d h => (gd d h).wt
  have : ds.length * (1935 + 2) ≤ 63 * (1935 + 2) := Nat.mul_le_mul_right _ (by omega)
  omega
theorem G72.tup {r : Addr} {vs : List V} (h : SqT K H r vs) (hl : vs.length < 64) (he : ∀ v ∈ vs, E72 K p H v) : G72 K p H (.ref r) := by
  obtain ⟨ds, o, nd, gd⟩ := ods72 he
  have dl : ds.length < 64 := by rw [← o.length]; exact hl
  refine ⟨.tuple ds, .tup h o, fun es e => ?_, ((gds72 dl gd).tup).mono (by decide) (by decide) (by decide)⟩
  injection e with e
  rw [← e]
  exact ⟨dl, nd⟩
theorem G72.lst {l : Addr} {vs : List V} (h : H l = some (.lst vs)) (n1 : l ∉ [p]) (n2 : l ≠ sysModules) (hl : vs.length < 64) (he : ∀ v ∈ vs, E72 K p H v) : G72 K p H (.ref l) := by
  obtain ⟨ds, o, nd, gd⟩ := ods72 he
  have dl : ds.length < 64 := by rw [← o.length]; exact hl
  exact ⟨.list ds, .lst h n1 n2 o, (fun _ e => nomatch e), ((gds72 dl gd).lst).mono (by decide) (by decide) (by decide)⟩
theorem G72.one {r ro : Addr} {vs : List V} (h : SqT K H r [.ref ro]) (ho : SqT K H ro vs) (hl : vs.length < 64) (he : ∀ v ∈ vs, E72 K p H v) : G72 K p H (.ref r) := by
  obtain ⟨ds, o, nd, gd⟩ := ods72 he
  have dl : ds.length < 64 := by rw [← o.length]; exact hl
  refine ⟨.tuple [.tuple ds], .tup h (.cons (.tup ho o) .nil), fun es e => ?_, (((gds72 dl gd).tup.one).tup).mono (by decide) (by decide) (by decide)⟩
  injection e with e
  rw [← e]
  exact ⟨(show (1 : Nat) < 64 by decide), fun e he kvs z => by rw [List.mem_singleton.mp he] at z; cases z⟩
theorem G72.of_e (h : E72 K p H v) (ht : ∀ r, v ≠ .ref r) : G72 K p H v := by
  obtain ⟨d, a, b, c⟩ := h
  refine ⟨d, a, fun ds e => ?_, c.mono (by decide) (by decide) (by decide)⟩
  subst e
  obtain ⟨r, _, e, _⟩ := a.inv_tup
  exact absurd e (ht r)
theorem G72.str0 : G72 K p H (.str (Str.ofString "")) := ⟨_, .str _, (fun _ e => nomatch e), ⟨rfl, Nat.zero_le _, by decide +kernel⟩⟩
theorem G72.dict0 (h : Od K [p] H v (.dict [])) : G72 K p H v := ⟨_, h, (fun _ e => nomatch e), ⟨rfl, by decide, by decide⟩⟩
theorem gods72 : ∀ {xs : List V}, (∀ v ∈ xs, G72 K p H v) → ∃ ds, Ods K [p] H xs ds ∧ ∀ d ∈ ds, Fl72 d ∧ GdD 10 5 130000 d
  | [], _ => ⟨[], .nil, fun _ h => nomatch h⟩
  | v :: vs, h => by
    obtain ⟨d, a, b, c⟩ := h v (List.mem_cons_self ..)
    obtain ⟨ds, o, gd⟩ := gods72 fun w hw => h w (List.mem_cons_of_mem _ hw)
    refine ⟨d :: ds, .cons a o, fun e he => ?_⟩
    rcases List.mem_cons.mp he with rfl | he
    · exact ⟨b, c⟩
    · exact gd e he
end
def I72 (v : V) : Prop := ∃ k : Nat, k < 41 ∧ v = .int k
theorem I72.e {K : PySem.W.Frag} {p : Addr} {H : Hp} {v : V} (h : I72 v) : E72 K p H v := by
  obtain ⟨k, hk, rfl⟩ := h
  exact E72.int ⟨by omega, by omega⟩
theorem i_nats {ns : List Nat} (h : ∀ k ∈ ns, k < 40) : ∀ v ∈ natsV ns, I72 v := fun v hv => by
  obtain ⟨k, hk, rfl⟩ := List.mem_map.mp hv
  exact ⟨k, by have := h k hk; omega, rfl⟩
theorem mem_cut72 {xs : List V} {lo hi : Option Int} {v : V} (h : v ∈ cutV xs lo hi) : v ∈ xs := List.mem_of_mem_drop (List.mem_of_mem_take h)
theorem i_cut {xs : List V} {lo hi : Option Int} (h : ∀ v ∈ xs, I72 v) : ∀ v ∈ cutV xs lo hi, I72 v := fun v hv => h v (mem_cut72 hv)
theorem i_app {xs ys : List V} (h : ∀ v ∈ xs, I72 v) (h' : ∀ v ∈ ys, I72 v) : ∀ v ∈ xs ++ ys, I72 v := fun v hv => (List.mem_append.mp hv).elim (h v) (h' v)
theorem e_app {K : PySem.W.Frag} {p : Addr} {H : Hp} {xs ys : List V} (h : ∀ v ∈ xs, E72 K p H v) (h' : ∀ v ∈ ys, E72 K p H v) : ∀ v ∈ xs ++ ys, E72 K p H v := fun v hv => (List.mem_append.mp hv).elim (h v) (h' v)
theorem e_one {K : PySem.W.Frag} {p : Addr} {H : Hp} {x : V} (h : E72 K p H x) : ∀ v ∈ [x], E72 K p H v := fun v hv => by rw [List.mem_singleton.mp hv]; exact h
theorem i_e {K : PySem.W.Frag} {p : Addr} {H : Hp} {xs : List V} (h : ∀ v ∈ xs, I72 v) : ∀ v ∈ xs, E72 K p H v := fun v hv => (h v hv).e
theorem i_set {xs : List V} {n : Nat} {x : V} (h : ∀ v ∈ xs, I72 v) (hx : I72 x) : ∀ v ∈ xs.set n x, I72 v := fun v hv => by
  rcases List.mem_or_eq_of_mem_set hv with hv | rfl
  · exact h v hv
  · exact hx
theorem g_grow {K : PySem.W.Frag} {p : Addr} {H H' : Hp} {xs : List V} (h : ∀ v ∈ xs, G72 K p H v) (g : Grow [p] H H') : ∀ v ∈ xs, G72 K p H' v := fun v hv => (h v hv).grow g
theorem g_cons {K : PySem.W.Frag} {p : Addr} {H : Hp} {x : V} {xs : List V} (hx : G72 K p H x) (h : ∀ v ∈ xs, G72 K p H v) : ∀ v ∈ x :: xs, G72 K p H v := fun v hv => by
  rcases List.mem_cons.mp hv with rfl | hv
  · exact hx
  · exact h v hv
theorem g_nil {K : PySem.W.Frag} {p : Addr} {H : Hp} : ∀ v ∈ ([] : List V), G72 K p H v := fun _ h => nomatch h
theorem g_app {K : PySem.W.Frag} {p : Addr} {H : Hp} {xs ys : List V} (h : ∀ v ∈ xs, G72 K p H v) (h' : ∀ v ∈ ys, G72 K p H v) : ∀ v ∈ xs ++ ys, G72 K p H v := fun v hv => (List.mem_append.mp hv).elim (h v) (h' v)
theorem cut_one72 (xs : List V) (i : Nat) : (cutV xs (some (i : Int)) (some ((i : Int) + 1))).length ≤ 1 := by
  unfold cutV
  rw [show (i : Int) + 1 = ((i + 1 : Nat) : Int) from by omega, HT.sIx_nat, HT.sIx_nat, List.length_take]
  omega
structure S72 (K : PySem.W.Frag) (p : Addr) (H : Hp) (l : Addr) (xs : List V) (n : Nat) : Prop where
  at_ : H l = some (.lst xs)
  gd : ∀ v ∈ xs, G72 K p H v
  ne : l ∉ [p]
  len : xs.length ≤ n
theorem S72.grow {K : PySem.W.Frag} {p : Addr} {H H' : Hp} {l : Addr} {xs : List V} {n : Nat} (h : S72 K p H l xs n) (g : Grow [p] H H') : S72 K p H' l xs n := ⟨g.keep _ _ h.ne h.at_, g_grow h.gd g, h.ne, h.len⟩
theorem nats_i {ms ns : List Nat} (h : ms.Perm ns) (hl : ∀ k ∈ ns, k < 40) : ∀ k ∈ ms, k < 40 := fun k hk => hl k (h.mem_iff.mp hk)
theorem od_nats72 {K : PySem.W.Frag} {m : List Addr} {H : Hp} {r : Addr} {ns : List Nat} (h : SqT K H r (natsV ns)) : Od K m H (.ref r) (.tuple (ns.map fun k : Nat => PyData.int (k : Int))) := by
  refine .tup h ?_
  clear h
  induction ns with
  | nil => exact .nil
  | cons a b ih => exact .cons (.int _) ih
theorem fl_nats72 {ns : List Nat} (h : ns.length < 64) : Fl72 (.tuple (ns.map fun k : Nat => PyData.int (k : Int))) := fun ds e => by
  injection e with e
  rw [← e]
  refine ⟨by rw [List.length_map]; exact h, fun d hd kvs z => ?_⟩
  obtain ⟨k, _, rfl⟩ := List.mem_map.mp hd
  cases z
def sp_orders72 (K : PySem.W.Frag) : Sp := sp2 fun x y H Q => ∃ (p ro : Addr) (ns : List Nat), x = .ref p ∧ y = .ref ro ∧ Pot H p ∧ FrT H ro (natsV ns) ∧ ns.length ≤ 40 ∧ (∀ k ∈ ns, k < 40) ∧
  ∀ (l : Addr) (xs : List V) H', Grow [p] H H' → Pot H' p → H' l = some (.lst xs) → l ∉ [p] → l ≠ sysModules → (∀ v ∈ xs, G72 K p H' v) → xs.length ≤ 30 → Q (.ref l) H'
end L3

namespace My
open PySem PySem.Spec PyProof.Rows L2 L3
def top (i : Nat) : Stmt := PySem.Challenge.pw_joinedasks_k72_whole_orders_that_fit.main.body.getD i (.Pass ⟨0, 0, 0, 0⟩)
section
variable {P : Program} {w : World} {K : PySem.W.Frag} {mg : Str → Option Value} {base : Heap}
theorem sc__law_take : FnScope ["_law_pot_here", "_law_many", "_law_digit"] ["_law_pot_here", "_law_many"] (defScope (top 32)) := ⟨rfl, rfl, rfl, by decide +kernel, rfl, by decide +kernel, by decide +kernel⟩
set_option maxHeartbeats 0 in
theorem ok__law_take {n : Nat} {f : Addr} {fd : FuncData} (F : Fun K "_law_take" "_law_take" (top 32) f fd) (B : Blt mg)     :
    FnOk P w K mg base CX0 (n + 1) f fd ["_law_pot_here", "_law_many"] (sp_take K) := by
  refine F.ok sc__law_take sp2_len (fun cdv A outer s H vs Q E hr h => ?_)
  obtain ⟨x, y, rfl, a, m, rfl, rfl, ⟨p0, p1, hp, h0⟩, hm, hm2, q⟩ := h
  refine ⟨_, (pss_cons (ps_if (pt_cmpR op_gt (pe_ix ix_list (pv 0) pe_int (fun _ _ => rfl)) pe_int (nomark _)) (pss_cons (ps_set (i := 2) sc__law_take.nd rfl (Or.inl rfl) (pe_op op_mod (pe_ix ix_list (pv 0) pe_int (fun _ _ => rfl)) (pv 1))) (pss_cons (ps_asg (pe_op op_fdivL (pe_ix ix_list (pv 0) pe_int (fun _ _ => rfl)) (pv 1)) (pg_sub (pv 0) pe_int set_list)) (pss_one (ps_ret (pv 2))))) pss_nil) (pss_cons (ps_asg (pe_op op_mod (pe_op op_add (pe_op op_mulG (pe_ix ix_list (pv 0) pe_int (fun _ _ => rfl)) pe_int) pe_int) pe_int) (pg_sub (pv 0) pe_int set_list)) (pss_one (ps_ret (pe_op op_mod (pe_op op_fdivL (pe_op op_mod (pe_op op_mulG (pe_ix ix_list (pv 0) pe_int (fun _ _ => rfl)) (pe_ix ix_list (pv 0) pe_int (fun _ _ => rfl))) pe_int) pe_int) (pv 1)))))), ?_⟩
  refine ⟨_, rfl, a, _, _, _, rfl, rfl, SqL.of hp, rfl, _, _, rfl, rfl, _, rfl, ?_⟩
  refine ite2 (fun c => ?_) (fun c => ?_)
  · refine ⟨_, rfl, a, _, _, _, rfl, rfl, SqL.of hp, rfl, _, rfl, p0, m, rfl, rfl, hm, ?_⟩
    refine ⟨_, rfl, a, _, _, _, rfl, rfl, SqL.of hp, rfl, _, rfl, p0, m, rfl, rfl, ⟨hm, hm2⟩, _, rfl, a, _, 0, 0, rfl, rfl, hp, rfl, ?_⟩
    exact ⟨_, rfl, q _ _ (Int.emod_nonneg _ (by omega)) (Int.emod_lt_of_pos _ hm) (Grow.set hp (by simp) _) ⟨p0 / m, p1, upd_same, Int.ediv_nonneg h0 (by omega)⟩⟩
  · refine ⟨_, rfl, a, _, _, _, rfl, rfl, SqL.of hp, rfl, p1, 48271, rfl, rfl, mulOkR ⟨by decide, by decide⟩, _, _, rfl, rfl, _, _, rfl, rfl, (by show (0 : Int) < 2147483647; decide), _, rfl, a, _, 1, 1, rfl, rfl, hp, rfl, ?_⟩
    have b0 : 0 ≤ (p1 * 48271 + 12345) % 2147483647 := Int.emod_nonneg _ (by decide)
    have b1 : (p1 * 48271 + 12345) % 2147483647 < 2147483647 := Int.emod_lt_of_pos _ (by decide)
    refine ⟨_, rfl, a, _, _, _, rfl, rfl, SqL.of upd_same, rfl, _, rfl, a, _, _, _, rfl, rfl, SqL.of upd_same, rfl, (p1 * 48271 + 12345) % 2147483647, (p1 * 48271 + 12345) % 2147483647, rfl, rfl, mulOkR ⟨by omega, by omega⟩, _, _, rfl, rfl, (by show (0 : Int) < 2147483629; decide), _, _, rfl, rfl, ⟨by decide, by decide⟩, _, rfl, _, _, rfl, rfl, hm, ?_⟩
    exact q _ _ (Int.emod_nonneg _ (by omega)) (Int.emod_lt_of_pos _ hm) (Grow.set hp (by simp) _) ⟨p0, (p1 * 48271 + 12345) % 2147483647, upd_same, h0⟩
theorem sc__law_spoilt : FnScope ["_law_pot_here", "_law_calls", "_law_at_here", "_law_hand", "_law_box", "_law_deed_here", "_law_begun", "_law_ended", "_law_answer", "_law_choice", "_law_call"] ["_law_pot_here", "_law_calls"] (defScope (top 46)) := ⟨rfl, rfl, rfl, by decide +kernel, rfl, by decide +kernel, by decide +kernel⟩
set_option maxHeartbeats 0 in
theorem ok__law_spoilt {n : Nat} {f : Addr} {fd : FuncData} (F : Fun K "_law_spoilt" "_law_spoilt" (top 46) f fd) (B : Blt mg) (c__law_take : Callee P w K mg base n "_law_take" ["_law_pot_here", "_law_many"] (sp_take K))    :
    FnOk P w K mg base CX0 (n + 1) f fd ["_law_pot_here", "_law_calls"] (sp_spoilt72 K) := by
  refine F.ok sc__law_spoilt sp2_len (fun cdv A outer s H vs Q E hr h => ?_)
  obtain ⟨x, y, rfl, p, cs, n, B0, rfl, pp, hc, ok, bd, q⟩ := h
  refine ⟨_, (pss_cons (ps_if (pt_cmpR (op_eqNilT72 (K := K) rfl hr) (pv 1) (pe_tup pa_nil) (nomark _)) (pss_one (ps_ret (pv 1))) pss_nil) (pss_cons (ps_set (i := 2) sc__law_spoilt.nd rfl (Or.inl rfl) (pe_callC c__law_take hr rfl (pa_cons (pv 0) (pa_cons (pe_callB call_len_seq rfl B.len b_len (pa_cons (pv 1) pa_nil)) pa_nil)))) (pss_cons (ps_asg (pe_ix ix_tup (pv 1) (pv 2) (fun _ _ => rfl)) (pg_tup rfl (pgs_cons (pg_name (i := 3) sc__law_spoilt.nd rfl (Or.inl rfl)) (pgs_cons (pg_name (i := 4) sc__law_spoilt.nd rfl (Or.inl rfl)) (pgs_cons (pg_name (i := 5) sc__law_spoilt.nd rfl (Or.inl rfl)) (pgs_cons (pg_name (i := 6) sc__law_spoilt.nd rfl (Or.inl rfl)) (pgs_cons (pg_name (i := 7) sc__law_spoilt.nd rfl (Or.inl rfl)) (pgs_cons (pg_name (i := 8) sc__law_spoilt.nd rfl (Or.inl rfl)) pgs_nil)))))))) (pss_cons (ps_set (i := 9) sc__law_spoilt.nd rfl (Or.inl rfl) (pe_callC c__law_take hr rfl (pa_cons (pv 0) (pa_cons pe_int pa_nil)))) (pss_cons (ps_if (pt_cmpR op_eq (pv 9) pe_int (nomark _)) (pss_one (ps_set (i := 8) sc__law_spoilt.nd rfl (Or.inl rfl) (pe_op op_sub (pe_op op_add (pv 8) pe_int) (pe_op op_mulG pe_int (pe_callC c__law_take hr rfl (pa_cons (pv 0) (pa_cons pe_int pa_nil))))))) pss_nil) (pss_cons (ps_if (pt_cmpR op_eq (pv 9) pe_int (nomark _)) (pss_one (ps_set (i := 6) sc__law_spoilt.nd rfl (Or.inl rfl) (pv 7))) pss_nil) (pss_cons (ps_if (pt_cmpR op_eq (pv 9) pe_int (nomark _)) (pss_one (ps_set (i := 7) sc__law_spoilt.nd rfl (Or.inl rfl) (pv 6))) pss_nil) (pss_cons (ps_set (i := 10) sc__law_spoilt.nd rfl (Or.inl rfl) (pe_tup (pa_cons (pv 3) (pa_cons (pv 4) (pa_cons (pv 5) (pa_cons (pv 6) (pa_cons (pv 7) (pa_cons (pv 8) pa_nil)))))))) (pss_one (ps_ret (pe_op (op_catG (K := K) rfl) (pe_op (op_catG (K := K) rfl) (pe_slice (sl_tupG (K := K) rfl) (pv 1) po_none (po_some (pv 2))) (pe_tup (pa_cons (pv 10) pa_nil))) (pe_slice (sl_tupG (K := K) rfl) (pv 1) (po_some (pe_op op_add (pv 2) pe_int)) po_none)))))))))))), ?_⟩
  obtain ⟨rc, xs, rfl, hrc, hall⟩ := id hc
  have xl := hall.len
  have c40 := ok.len
  refine c_test (fun b H' => b = xs.isEmpty ∧ Grow [] H H') (fun Kk hk => ⟨_, rfl, szl rfl, fun t0 ht0 => ⟨rc, t0, xs, rfl, rfl, (Grow.new (m := []) ht0 _).sqT hrc, SqT.of upd_same, _, rfl, hk _ _ ⟨rfl, Grow.new ht0 _⟩⟩⟩) ?_
  rintro _ H1 ⟨rfl, g1⟩
  have pp1 := pp.grow g1
  cases he : xs.isEmpty with
  | true => exact iteT ⟨_, rfl, q cs _ _ ok (fun c h => (bd c h).mono (by omega)) g1.wk pp1 (g1.calls72 hc)⟩
  | false =>
    refine iteF (c_next ?_)
    have x0 : 0 < xs.length := by
      cases xs with
      | nil => cases he
      | cons => simp
    refine c_asg (fun v H' => ∃ i : Nat, v = .int i ∧ i < cs.length ∧ Grow [p] H1 H' ∧ Pot H' p) (fun Kk hk => ⟨_, rfl, _, rfl, rc, _, rfl, .inr (g1.sqT hrc), _, _, rfl, p, _, rfl, rfl, pp1, by omega, Int.lt_of_le_of_lt (b := 100) (by omega) (by decide), fun k H' k0 k1 g pp' => hk _ _ ⟨k.toNat, congrArg V.int (by omega), by omega, g, pp'⟩⟩) ?_
    rintro _ H2 ⟨i, rfl, hi, g2, pp2⟩
    have G2 : Grow [p] H H2 := g1.wk.trans g2
    obtain ⟨z, hz, rz, rd, rfl, sz, sd⟩ := hall.getR (List.getElem?_eq_getElem hi)
    have o := ok.ok _ (List.getElem_mem hi)
    have cb := bd _ (List.getElem_mem hi)
    have hci : cs[i]? = some cs[i] := List.getElem?_eq_getElem hi
    generalize cs[i] = c at sz sd o cb hci
    refine ⟨_, rfl, _, rfl, rc, _, _, .ref rz, rfl, rfl, G2.sqT hrc, atI_nat hz, rz, _, rfl, G2.sqT sz, rfl, _, _, rfl, _, _, rfl, _, _, rfl, _, _, rfl, _, _, rfl, _, _, rfl, rfl, ?_⟩
    try dsimp only
    refine c_asg (fun v H' => ∃ k : Int, v = .int k ∧ Grow [p] H2 H' ∧ Pot H' p) (fun Kk hk => ⟨_, rfl, _, _, rfl, p, 3, rfl, rfl, pp2, by decide, by decide, fun k H' k0 k1 g pp' => hk _ _ ⟨k, rfl, g, pp'⟩⟩) ?_
    rintro _ H3 ⟨k, rfl, g3, pp3⟩
    refine c_if (fun σ' H' => ∃ an : Int, σ' = [some (.ref p), some (.ref rc), some (.int i), some (.int c.hand), some (.int c.box), some (.ref rd), some (.int c.begun), some (.int c.ended), some (.int an), some (.int k), none] ∧ c.answer - 1 ≤ an ∧ an ≤ c.answer + 1 ∧ Grow [p] H3 H' ∧ Pot H' p) ?_ (fun hk => ?_)
    rotate_left
    · refine ⟨_, rfl, rfl, _, rfl, ?_⟩
      by_cases k0 : k = 0
      · refine iteT' (decide_eq_true (congrArg V.int k0)) ⟨_, rfl, _, _, rfl, rfl, _, rfl, _, _, rfl, p, 2, rfl, rfl, pp3, by decide, by decide, fun t H' t0 t1 g pp' => ⟨_, _, rfl, rfl, mulOkL ⟨by decide, by decide⟩, _, _, rfl, rfl, hk _ _ ⟨c.answer + 1 - 2 * t, rfl, by omega, by omega, g, pp'⟩⟩⟩
      · exact iteF' (decide_eq_false fun z => k0 (V.int.inj z)) (hk _ _ ⟨c.answer, rfl, by omega, by omega, Grow.refl _ _, pp3⟩)
    rintro _ H4 ⟨an, rfl, a0, a1, g4, pp4⟩
    have t0 := o.t0
    have t1 := o.t1
    refine c_if (fun σ' H' => ∃ be : Int, σ' = [some (.ref p), some (.ref rc), some (.int i), some (.int c.hand), some (.int c.box), some (.ref rd), some (.int be), some (.int c.ended), some (.int an), some (.int k), none] ∧ 0 ≤ be ∧ be ≤ c.ended ∧ H' = H4) ?_ (fun hk => ?_)
    rotate_left
    · refine ⟨_, rfl, rfl, _, rfl, ?_⟩
      by_cases k0 : k = 1
      · exact iteT' (decide_eq_true (congrArg V.int k0)) ⟨_, rfl, hk _ _ ⟨c.ended, rfl, by omega, by omega, rfl⟩⟩
      · exact iteF' (decide_eq_false fun z => k0 (V.int.inj z)) (hk _ _ ⟨c.begun, rfl, t0, t1, rfl⟩)
    rintro _ H4 ⟨be, rfl, b0, b1, rfl⟩
    refine c_if (fun σ' H' => ∃ en : Int, σ' = [some (.ref p), some (.ref rc), some (.int i), some (.int c.hand), some (.int c.box), some (.ref rd), some (.int be), some (.int en), some (.int an), some (.int k), none] ∧ be ≤ en ∧ en ≤ c.ended ∧ H' = H4) ?_ (fun hk => ?_)
    rotate_left
    · refine ⟨_, rfl, rfl, _, rfl, ?_⟩
      by_cases k0 : k = 2
      · exact iteT' (decide_eq_true (congrArg V.int k0)) ⟨_, rfl, hk _ _ ⟨be, rfl, by omega, by omega, rfl⟩⟩
      · exact iteF' (decide_eq_false fun z => k0 (V.int.inj z)) (hk _ _ ⟨c.ended, rfl, by omega, by omega, rfl⟩)
    rintro _ H4 ⟨en, rfl, n0, n1, rfl⟩
    have G4 := G2.trans (g3.trans g4)
    have ok' : CallOk72 n ⟨c.hand, c.box, c.deed, be, en, an⟩ := ⟨o.h0, o.h1, o.b0, o.b1, o.d, b0, n0⟩
    have e1 := cb.hand
    have e2 := cb.box
    have e3 := cb.begun
    have e4 := cb.ended
    have e5 := cb.answer
    have cb' : Cb72 (B0 + 1) ⟨c.hand, c.box, c.deed, be, en, an⟩ := by
      refine ⟨?_, ?_, cb.deed.mono (by omega), ?_, ?_, ?_⟩
      · show -(B0 + 1) ≤ c.hand ∧ c.hand ≤ B0 + 1; omega
      · show -(B0 + 1) ≤ c.box ∧ c.box ≤ B0 + 1; omega
      · show -(B0 + 1) ≤ be ∧ be ≤ B0 + 1; omega
      · show -(B0 + 1) ≤ en ∧ en ≤ B0 + 1; omega
      · show -(B0 + 1) ≤ an ∧ an ≤ B0 + 1; omega
    refine c_asg (fun v H' => ∃ tc, v = .ref tc ∧ CallAt72 K H' (.ref tc) ⟨c.hand, c.box, c.deed, be, en, an⟩ ∧ Grow [] H4 H') (fun Kk hk => ⟨_, rfl, _, rfl, _, rfl, _, rfl, _, rfl, _, rfl, szl rfl, fun tc htc => hk _ _ ⟨tc, rfl, ⟨tc, rd, rfl, SqT.of upd_same, (Grow.new (m := []) htc _).sqT (G4.sqT sd)⟩, Grow.new htc _⟩⟩) ?_
    rintro _ H5 ⟨tc, rfl, htc, g5⟩
    have cl1 := cutV_length xs
    refine ⟨_, rfl, _, rfl, _, rfl, rc, _, rfl, g5.sqT (G4.sqT hrc), fun p1 H6 g6 h6 => ⟨_, rfl, szl rfl, fun t6 ht6 => ?_⟩⟩
    have gt6 := Grow.new (m := []) ht6 (.tup [.ref tc])
    refine ⟨p1, t6, _, _, rfl, rfl, gt6.sqT h6, SqT.of upd_same, ?_, fun p2 H7 g7 h7 => ?_⟩
    · have := cl1 none (some (i : Int)); exact le72 (by show _ + 1 ≤ 5000; omega)
    have G7 := g5.trans (g6.trans (gt6.trans g7))
    refine ⟨_, rfl, _, rfl, _, _, rfl, rfl, _, rfl, rc, _, rfl, G7.sqT (G4.sqT hrc), fun p3 H8 g8 h8 => ⟨p2, p3, _, _, rfl, rfl, g8.sqT h7, h8, ?_, fun p4 H9 g9 h9 => ?_⟩⟩
    · have := cl1 none (some (i : Int)); have := cl1 (some ((i : Int) + 1)) none
      exact le72 (by rw [List.length_append]; show _ + 1 + _ ≤ 5000; omega)
    have G9 := G7.trans (g8.trans g9)
    rw [show (i : Int) + 1 = ((i + 1 : Nat) : Int) from by omega, cut_pre, cut_suf] at h9
    refine q (cs.take i ++ [⟨c.hand, c.box, c.deed, be, en, an⟩] ++ cs.drop (i + 1)) _ _ (ok.spoil hci rfl ok') (fun x hx => ?_) (G4.trans G9.wk) (pp4.grow G9) ⟨p4, _, rfl, h9, ?_⟩
    · rcases List.mem_append.mp hx with hx | hx
      · rcases List.mem_append.mp hx with hx | hx
        · exact (bd x (List.mem_of_mem_take hx)).mono (by omega)
        · rw [List.mem_singleton.mp hx]; exact cb'
      · exact (bd x (List.mem_of_mem_drop hx)).mono (by omega)
    · have hA := (G4.trans G9.wk).callsR hall
      exact ((hA.take (n := i)).app (AllR.one ((g6.trans (gt6.trans (g7.trans (g8.trans g9)))).call72 htc))).app (hA.drop (n := i + 1))
theorem sc__law_is_truth : FnScope ["_law_found", "_law_due"] ["_law_found", "_law_due"] (defScope (top 47)) := ⟨rfl, rfl, rfl, by decide +kernel, rfl, by decide +kernel, by decide +kernel⟩
set_option maxHeartbeats 0 in
theorem ok__law_is_truth {n : Nat} {f : Addr} {fd : FuncData} (F : Fun K "_law_is_truth" "_law_is_truth" (top 47) f fd) (B : Blt mg)     :
    FnOk P w K mg base CX0 (n + 1) f fd ["_law_found", "_law_due"] (sp_truth72 K) := by
  refine F.ok sc__law_is_truth sp2_len (fun cdv A outer s H vs Q E hr h => ?_)
  obtain ⟨x, y, rfl, b, c, rfl, rfl, q⟩ := h
  refine ⟨_, (pss_one (ps_ret (pe_and (pe_callB call_isi rfl B.isinstance b_isinstance (pa_cons (pv 0) (pa_cons (pe_tyn rfl B.bool b_bool) pa_nil))) (pe_one (pe_cmpR op_eq (pv 0) (pv 1) (nomark _)))))), ?_⟩
  refine ⟨_, rfl, _, "bool", "bool", true, rfl, rfl, rfl, _, rfl, iteT ⟨_, rfl, _, rfl, rfl, ?_⟩⟩
  have e : decide (V.bl b = V.bl c) = (b == c) := by cases b <;> cases c <;> rfl
  rw [e]
  exact q
theorem sc_made : FnScope ["deed", "value", "add", "low", "high", "result"] ["deed", "value"] (defScope (top 10)) := ⟨rfl, rfl, rfl, by decide +kernel, rfl, by decide +kernel, by decide +kernel⟩
set_option maxHeartbeats 0 in
theorem ok_made {n : Nat} {f : Addr} {fd : FuncData} (F : Fun K "made" "made" (top 10) f fd) (B : Blt mg)     :
    FnOk P w K mg base CX0 (n + 1) f fd ["deed", "value"] (sp_made K) := by
  refine F.ok sc_made sp2_len (fun cdv A outer s H vs Q E hr h => ?_)
  obtain ⟨x, y, rfl, d, v, ⟨a, rfl, hs⟩, rfl, q⟩ := h
  refine ⟨_, (pss_cons (ps_asg (pv 0) (pg_tup rfl (pgs_cons (pg_name (i := 2) sc_made.nd rfl (Or.inl rfl)) (pgs_cons (pg_name (i := 3) sc_made.nd rfl (Or.inl rfl)) (pgs_cons (pg_name (i := 4) sc_made.nd rfl (Or.inl rfl)) pgs_nil))))) (pss_cons (ps_set (i := 5) sc_made.nd rfl (Or.inl rfl) (pe_op op_add (pv 1) (pv 2))) (pss_cons (ps_if (PW.pt (pw_and (pt_cmp (pc_notN (pv 3))) (pw_and1 (pt_cmpR op_gt (pv 3) (pv 5) (nomark _))))) (pss_one (ps_set (i := 5) sc_made.nd rfl (Or.inl rfl) (pv 3))) pss_nil) (pss_cons (ps_if (PW.pt (pw_and (pt_cmp (pc_notN (pv 4))) (pw_and1 (pt_cmpR op_lt (pv 4) (pv 5) (nomark _))))) (pss_one (ps_set (i := 5) sc_made.nd rfl (Or.inl rfl) (pv 4))) pss_nil) (pss_one (ps_ret (pv 5))))))), ?_⟩
  obtain ⟨ad, lo, hi⟩ := d
  refine ⟨_, rfl, a, _, rfl, hs, rfl, _, _, rfl, _, _, rfl, _, _, rfl, rfl, ?_⟩
  refine ⟨_, rfl, _, rfl, _, _, rfl, rfl, ?_⟩
  cases lo with
  | none =>
    refine ⟨_, rfl, _, rfl, iteF (iteF ?_)⟩
    cases hi with
    | none => exact ⟨_, rfl, _, rfl, iteF (iteF ⟨_, rfl, q⟩)⟩
    | some u =>
      refine ⟨_, rfl, _, rfl, iteT ⟨_, rfl, _, rfl, _, _, rfl, rfl, _, rfl, ?_⟩⟩
      have q' : Q (.int (if u < v + ad then u else v + ad)) H := q
      refine ite2 (fun c => ?_) (fun c => ?_)
      · have c' : u < v + ad := of_decide_eq_true c
        rw [if_pos c'] at q'
        exact ⟨_, rfl, _, rfl, q'⟩
      · have c' : ¬ u < v + ad := fun z => c (decide_eq_true z)
        rw [if_neg c'] at q'
        exact ⟨_, rfl, q'⟩
  | some l =>
    refine ⟨_, rfl, _, rfl, iteT ⟨_, rfl, _, rfl, _, _, rfl, rfl, _, rfl, ?_⟩⟩
    have q0 : Q (.int (clampHi hi (if l > v + ad then l else v + ad))) H := q
    clear q
    refine ite2 (fun c => ?_) (fun c => ?_)
    · have c' : l > v + ad := of_decide_eq_true c
      rw [if_pos c'] at q0
      have q := q0
      refine ⟨_, rfl, ?_⟩
      cases hi with
      | none => exact ⟨_, rfl, _, rfl, iteF (iteF ⟨_, rfl, q⟩)⟩
      | some u =>
        refine ⟨_, rfl, _, rfl, iteT ⟨_, rfl, _, rfl, _, _, rfl, rfl, _, rfl, ?_⟩⟩
        have q' : Q (.int (if u < l then u else l)) H := q
        refine ite2 (fun c => ?_) (fun c => ?_)
        · have c' : u < l := of_decide_eq_true c
          rw [if_pos c'] at q'
          exact ⟨_, rfl, _, rfl, q'⟩
        · have c' : ¬ u < l := fun z => c (decide_eq_true z)
          rw [if_neg c'] at q'
          exact ⟨_, rfl, q'⟩
    · have c' : ¬ l > v + ad := fun z => c (decide_eq_true z)
      rw [if_neg c'] at q0
      have q := q0
      cases hi with
      | none => exact ⟨_, rfl, _, rfl, iteF (iteF ⟨_, rfl, q⟩)⟩
      | some u =>
        refine ⟨_, rfl, _, rfl, iteT ⟨_, rfl, _, rfl, _, _, rfl, rfl, _, rfl, ?_⟩⟩
        have q' : Q (.int (if u < v + ad then u else v + ad)) H := q
        refine ite2 (fun c => ?_) (fun c => ?_)
        · have c' : u < v + ad := of_decide_eq_true c
          rw [if_pos c'] at q'
          exact ⟨_, rfl, _, rfl, q'⟩
        · have c' : ¬ u < v + ad := fun z => c (decide_eq_true z)
          rw [if_neg c'] at q'
          exact ⟨_, rfl, q'⟩
theorem sc_are_answered : FnScope ["board", "calls", "order", "values", "number", "hand", "box", "deed", "begun", "ended", "answer"] ["board", "calls", "order"] (defScope (top 25)) := ⟨rfl, rfl, rfl, by decide +kernel, rfl, by decide +kernel, by decide +kernel⟩
set_option maxHeartbeats 0 in
theorem ok_are_answered {n : Nat} {f : Addr} {fd : FuncData} (F : Fun K "are_answered" "are_answered" (top 25) f fd) (B : Blt mg) (c_made : Callee P w K mg base n "made" ["deed", "value"] (sp_made K))    :
    FnOk P w K mg base CX0 (n + 1) f fd ["board", "calls", "order"] (sp_ans72 K) := by
  refine F.ok sc_are_answered sp3_len (fun cdv A outer s H vs Q E hr h => ?_)
  obtain ⟨x, y, z, rfl, b, cs, ns, hb, hc, hn, ok, hlt, q⟩ := h
  refine ⟨_, (pss_cons (ps_set (i := 3) sc_are_answered.nd rfl (Or.inl rfl) (pe_callTy call_list_of rfl B.list b_list (pa_cons (pv 0) pa_nil))) (pss_cons (ps_for PassesOwn.never rfl (pi_tup (pv 2)) (pg_name (i := 4) sc_are_answered.nd rfl (Or.inl rfl)) (pss_cons (ps_asg (pe_ix ix_tup (pv 1) (pv 4) (fun _ _ => rfl)) (pg_tup rfl (pgs_cons (pg_name (i := 5) sc_are_answered.nd rfl (Or.inl rfl)) (pgs_cons (pg_name (i := 6) sc_are_answered.nd rfl (Or.inl rfl)) (pgs_cons (pg_name (i := 7) sc_are_answered.nd rfl (Or.inl rfl)) (pgs_cons (pg_name (i := 8) sc_are_answered.nd rfl (Or.inl rfl)) (pgs_cons (pg_name (i := 9) sc_are_answered.nd rfl (Or.inl rfl)) (pgs_cons (pg_name (i := 10) sc_are_answered.nd rfl (Or.inl rfl)) pgs_nil)))))))) (pss_cons (ps_if (pt_cmpR op_ne (pe_ix ix_list (pv 3) (pv 6) (fun _ _ => rfl)) (pv 10) (nomark _)) (pss_one (ps_ret pe_bl)) pss_nil) (pss_one (ps_asg (pe_callC c_made hr rfl (pa_cons (pv 7) (pa_cons (pv 10) pa_nil))) (pg_sub (pv 3) (pv 6) set_list)))))) (pss_one (ps_ret pe_bl)))), ?_⟩
  obtain ⟨rb, rfl, hrb⟩ := id hb
  obtain ⟨rc, xs, rfl, hrc, hall⟩ := id hc
  obtain ⟨r, rfl, hr0⟩ := id hn
  refine ⟨_, rfl, rb, _, rfl, .inr hrb, fun l hl0 => ?_⟩
  have g0 := Grow.new (m := [l]) hl0 (.lst (b.map V.int))
  refine ⟨_, rfl, r, rfl, ⟨_, g0.sqT hr0⟩, for_tup (xs := natsV ns) (fun i σ H' => ∃ (vs : List Int) (e4 e5 e6 e7 e8 e9 e10 : Option V), σ = [some (.ref rb), some (.ref rc), some (.ref r), some (.ref l), e4, e5, e6, e7, e8, e9, e10] ∧ H' l = some (.lst (vs.map V.int)) ∧ vs.length = b.length ∧ Grow [l] H H' ∧ an72 cs vs (ns.drop i) = an72 cs b ns) ⟨b, _, _, _, _, _, _, _, rfl, upd_same, rfl, g0, rfl⟩ (fun i σ H' _ ⟨_, _, _, _, _, _, _, _, _, _, _, g, _⟩ => g.sqT hr0) ?_ ?_⟩
  · rintro i x σ H1 hx ⟨vs, e4, e5, e6, e7, e8, e9, e10, rfl, hl1, vl, g1, hk⟩
    obtain ⟨k, hki, rfl⟩ := natsV_at72 hx
    have hk' := hlt k (List.mem_of_getElem? hki)
    obtain ⟨z, hz, rz, rd, rfl, sz, sd⟩ := hall.getR (List.getElem?_eq_getElem hk')
    have o := ok _ (List.getElem_mem hk')
    have ec : cg cs k = cs[k] := cg_get (List.getElem?_eq_getElem hk')
    rw [drop_at72 hki, an_cons, ec] at hk
    refine ⟨_, rfl, _, rfl, rc, _, _, .ref rz, rfl, rfl, g1.sqT hrc, atI_nat hz, rz, _, rfl, g1.sqT sz, rfl, _, _, rfl, _, _, rfl, _, _, rfl, _, _, rfl, _, _, rfl, _, _, rfl, rfl, ?_⟩
    try dsimp only
    have b0 := o.b0
    have b1 := o.b1
    have hbx : cs[k].box.toNat < vs.length := by omega
    have hat : atI (vs.map V.int) cs[k].box = some (.int (vs.getD cs[k].box.toNat 0)) := by
      have : cs[k].box = (cs[k].box.toNat : Int) := by omega
      rw [this]
      refine atI_nat ?_
      rw [List.getElem?_map, List.getElem?_eq_getElem hbx, Int.toNat_natCast, List.getD_eq_getElem?_getD, List.getElem?_eq_getElem hbx]
      rfl
    refine ⟨_, rfl, _, rfl, l, _, _, _, rfl, rfl, SqL.of hl1, hat, _, rfl, rfl, _, rfl, ?_⟩
    by_cases ha : vs.getD cs[k].box.toNat 0 = cs[k].answer
    · rw [if_pos ha] at hk
      refine iteF' (by rw [decide_eq_true (congrArg V.int ha)]; rfl) (c_next ?_)
      refine ⟨_, rfl, _, rfl, _, _, rfl, cs[k].deed, cs[k].answer, ⟨rd, rfl, g1.sqT sd⟩, rfl, _, rfl, _, rfl, l, _, _, cs[k].box.toNat, rfl, rfl, hl1, ?_, ⟨vs.set cs[k].box.toNat (cs[k].deed.mk' cs[k].answer), _, _, _, _, _, _, _, rfl, ?_, by rw [List.length_set, vl], g1.trans (Grow.set hl1 (by simp) _), hk⟩⟩
      · exact ixN_nat b0 (by rw [List.length_map]; exact hbx)
      · rw [upd_same, List.map_set]
    · rw [if_neg ha] at hk
      refine iteT' (by rw [decide_eq_false fun z => ha (V.int.inj z)]; rfl) ?_
      have := q _ (Grow.shrink hl0 g1)
      rw [← hk] at this
      exact this
  · rintro σ H1 ⟨vs, e4, e5, e6, e7, e8, e9, e10, rfl, hl1, vl, g1, hk⟩
    rw [natsV_len, List.drop_length] at hk
    have := q _ (Grow.shrink hl0 g1)
    rw [← hk] at this
    exact this
theorem sc_keeps_ahead : FnScope ["calls", "order", "latest", "number", "hand", "box", "deed", "begun", "ended", "answer"] ["calls", "order"] (defScope (top 26)) := ⟨rfl, rfl, rfl, by decide +kernel, rfl, by decide +kernel, by decide +kernel⟩
set_option maxHeartbeats 0 in
theorem ok_keeps_ahead {n : Nat} {f : Addr} {fd : FuncData} (F : Fun K "keeps_ahead" "keeps_ahead" (top 26) f fd) (B : Blt mg)     :
    FnOk P w K mg base CX0 (n + 1) f fd ["calls", "order"] (sp_keep72 K) := by
  refine F.ok sc_keeps_ahead sp2_len (fun cdv A outer s H vs Q E hr h => ?_)
  obtain ⟨x, y, rfl, cs, ns, hc, hn, ⟨m, ok⟩, hlt, _, q⟩ := h
  refine ⟨_, (pss_cons (ps_set (i := 2) sc_keeps_ahead.nd rfl (Or.inl rfl) pe_int) (pss_cons (ps_for PassesOwn.never rfl (pi_tup (pv 1)) (pg_name (i := 3) sc_keeps_ahead.nd rfl (Or.inl rfl)) (pss_cons (ps_asg (pe_ix ix_tup (pv 0) (pv 3) (fun _ _ => rfl)) (pg_tup rfl (pgs_cons (pg_name (i := 4) sc_keeps_ahead.nd rfl (Or.inl rfl)) (pgs_cons (pg_name (i := 5) sc_keeps_ahead.nd rfl (Or.inl rfl)) (pgs_cons (pg_name (i := 6) sc_keeps_ahead.nd rfl (Or.inl rfl)) (pgs_cons (pg_name (i := 7) sc_keeps_ahead.nd rfl (Or.inl rfl)) (pgs_cons (pg_name (i := 8) sc_keeps_ahead.nd rfl (Or.inl rfl)) (pgs_cons (pg_name (i := 9) sc_keeps_ahead.nd rfl (Or.inl rfl)) pgs_nil)))))))) (pss_cons (ps_if (pt_cmpR op_lt (pv 8) (pv 2) (nomark _)) (pss_one (ps_ret pe_bl)) pss_nil) (pss_one (ps_set (i := 2) sc_keeps_ahead.nd rfl (Or.inl rfl) (pe_callB (call_max2 rfl) rfl B.max b_max (pa_cons (pv 2) (pa_cons (pv 7) pa_nil)))))))) (pss_one (ps_ret pe_bl)))), ?_⟩
  obtain ⟨rc, xs, rfl, hrc, hall⟩ := id hc
  obtain ⟨r, rfl, hr0⟩ := id hn
  refine ⟨_, rfl, r, rfl, ⟨_, hr0⟩, for_tup (xs := natsV ns) (fun i σ H' => ∃ (t : Int) (e3 e4 e5 e6 e7 e8 e9 : Option V), σ = [some (.ref rc), some (.ref r), some (.int t), e3, e4, e5, e6, e7, e8, e9] ∧ H' = H ∧ kp72 cs t (ns.drop i) = kl72 cs ns) ⟨0, _, _, _, _, _, _, _, rfl, rfl, kp_zero ok hlt⟩ (fun i σ H' _ ⟨_, _, _, _, _, _, _, _, _, e, _⟩ => by rw [e]; exact hr0) ?_ ?_⟩
  · rintro i x σ H' hx ⟨t, e3, e4, e5, e6, e7, e8, e9, rfl, rfl, hk⟩
    obtain ⟨k, hki, rfl⟩ := natsV_at72 hx
    have hk' := hlt k (List.mem_of_getElem? hki)
    obtain ⟨z, hz, rz, rd, rfl, sz, _⟩ := hall.getR (List.getElem?_eq_getElem hk')
    refine ⟨_, rfl, _, rfl, rc, _, _, .ref rz, rfl, rfl, hrc, atI_nat hz, rz, _, rfl, sz, rfl, _, _, rfl, _, _, rfl, _, _, rfl, _, _, rfl, _, _, rfl, _, _, rfl, rfl, ?_⟩
    try dsimp only
    have ec : cg cs k = cs[k] := cg_get (List.getElem?_eq_getElem hk')
    rw [drop_at72 hki] at hk
    unfold kp72 at hk
    rw [ec] at hk
    refine ⟨_, rfl, _, rfl, _, _, rfl, rfl, _, rfl, ?_⟩
    by_cases hb : cs[k].ended < t
    · rw [if_pos hb] at hk
      refine iteT' (decide_eq_true hb) ?_
      have := q _ (Grow.refl _ _)
      rw [← hk] at this
      exact this
    · rw [if_neg hb] at hk
      exact iteF' (decide_eq_false hb) (c_next ⟨_, rfl, _, rfl, _, _, rfl, ⟨_, _, _, _, _, _, _, _, rfl, rfl, hk⟩⟩)
  · rintro σ H' ⟨t, e3, e4, e5, e6, e7, e8, e9, rfl, rfl, hk⟩
    rw [natsV_len, List.drop_length] at hk
    have := q _ (Grow.refl _ _)
    rw [← hk] at this
    exact this
theorem sc_is_whole : FnScope ["thing"] ["thing"] (defScope (top 5)) := ⟨rfl, rfl, rfl, by decide +kernel, rfl, by decide +kernel, by decide +kernel⟩
set_option maxHeartbeats 0 in
theorem ok_is_whole {n : Nat} {f : Addr} {fd : FuncData} (F : Fun K "is_whole" "is_whole" (top 5) f fd) (B : Blt mg)     :
    FnOk P w K mg base CX0 (n + 1) f fd ["thing"] (sp_is_whole K) := by
  refine F.ok sc_is_whole sp1_len (fun cdv A outer s H vs Q E hr h => ?_)
  obtain ⟨x, rfl, ⟨T, ty⟩, q⟩ := h
  refine ⟨_, (pss_one (ps_ret (pe_and (pe_callB call_isi rfl B.isinstance b_isinstance (pa_cons (pv 0) (pa_cons (pe_tyn rfl B.int b_int) pa_nil))) (pe_one (pe_not (pe_callB call_isi rfl B.isinstance b_isinstance (pa_cons (pv 0) (pa_cons (pe_tyn rfl B.bool b_bool) pa_nil)))))))), ?_⟩
  cases x with
  | non => cases (show T = "NoneType" from ty); exact ⟨_, rfl, _, _, _, false, rfl, rfl, rfl, _, rfl, iteF q⟩
  | bl y => cases (show T = "bool" from ty); exact ⟨_, rfl, _, _, _, true, rfl, rfl, rfl, _, rfl, iteT ⟨_, rfl, _, _, _, true, rfl, rfl, rfl, _, rfl, q⟩⟩
  | int i => cases (show T = "int" from ty); exact ⟨_, rfl, _, _, _, true, rfl, rfl, rfl, _, rfl, iteT ⟨_, rfl, _, _, _, false, rfl, rfl, rfl, _, rfl, q⟩⟩
  | str y => cases (show T = "str" from ty); exact ⟨_, rfl, _, _, _, false, rfl, rfl, rfl, _, rfl, iteF q⟩
  | byt y => exact ty.elim
  | flt y => exact ty.elim
  | ty y => exact ty.elim
  | ref a =>
    rcases ty with ⟨rfl, xs, hq⟩ | ⟨rfl, xs, hq⟩ | ⟨rfl, kvs, hq⟩
    · exact ⟨_, rfl, _, _, _, false, rfl, .inl ⟨rfl, xs, hq⟩, rfl, _, rfl, iteF q⟩
    · exact ⟨_, rfl, _, _, _, false, rfl, .inr (.inl ⟨rfl, xs, hq⟩), rfl, _, rfl, iteF q⟩
    · exact ⟨_, rfl, _, _, _, false, rfl, .inr (.inr ⟨rfl, kvs, hq⟩), rfl, _, rfl, iteF q⟩
theorem sc_is_order : FnScope ["thing", "numbers"] ["thing", "numbers"] (defScope (top 24)) := ⟨rfl, rfl, rfl, by decide +kernel, rfl, by decide +kernel, by decide +kernel⟩
set_option maxHeartbeats 0 in
theorem ok_is_order {n : Nat} {f : Addr} {fd : FuncData} (F : Fun K "is_order" "is_order" (top 24) f fd) (B : Blt mg) (c_is_whole : Callee P w K mg base n "is_whole" ["thing"] (sp_is_whole K)) (g_sorted : mg "sorted" = none)   :
    FnOk P w K mg base CX0 (n + 1) f fd ["thing", "numbers"] (sp_isord72 K) := by
  refine F.ok sc_is_order sp2_len (fun cdv A outer s H vs Q E hr h => ?_)
  obtain ⟨x, y, rfl, d, m, n, hd, hl, hn, q⟩ := h
  refine ⟨_, (pss_cons (ps_if (PW.pt (pw_or (pt_not (pt_val (pe_callB (call_isiO (K := K) rfl) rfl B.isinstance b_isinstance (pa_cons (pv 0) (pa_cons (pe_tyn rfl B.tuple b_tuple) pa_nil))))) (pw_or1 (pt_not (pt_val (pe_callB (call_allB rfl) rfl B.all b_all (pa_cons (pe_compT (CSc.of (N' := ["number"]) (sub := [none]) (defScope (top 24)) ["thing", "numbers"] rfl rfl (by decide +kernel) rfl) rfl (pi_tup (pv 0)) (fun _ _ _ _ _ _ => pg_name (i := 0) (show (["number"] : List Str).Nodup by decide +kernel) rfl (Or.inl rfl)) (fun _ _ _ _ _ _ => pifs_nil) (fun _ _ _ _ _ _ => (pe_callC c_is_whole hr rfl (pa_cons (pv 0) pa_nil)))) pa_nil))))))) (pss_one (ps_ret pe_bl)) pss_nil) (pss_one (ps_ret (pe_cmpR (op_eqL hr) (pe_callB (call_sortedT (K := K) rfl) rfl g_sorted b_sorted (pa_cons (pv 0) pa_nil)) (pv 1) (nomark _))))), ?_⟩
  refine c_test (fun b H' => Grow [] H H' ∧ (b = true → ¬ ∃ ns, IsOrd72 n d ns) ∧ (b = false → ∃ (r : Addr) (zs : List Int), x = .ref r ∧ d = .tuple (zs.map PyData.int) ∧ SqT K H r (zs.map V.int) ∧ zs.length < 64)) (fun Kk hk => ⟨_, rfl, _, d, m, _, _, rfl, hd, kit_tup72 d, _, rfl, ?_⟩) ?_
  · cases ht : isT72 d with
    | false => exact iteT (hk _ _ ⟨Grow.refl _ _, (fun _ => not_ord72 ht n), fun z => nomatch z⟩)
    | true =>
      obtain ⟨r, xs, ds, rfl, rfl, hs, os⟩ := od_tup72 hd ht
      obtain ⟨h64, hnd⟩ := hl ds rfl
      have xl := os.length
      refine iteF ⟨_, rfl, r, rfl, ⟨_, hs⟩, comp_tupP72 (xs := xs) (fun i ys H' => ys = ((ds.take i).map isI72).map V.bl ∧ H' = H) ⟨rfl, rfl⟩ (fun i ys H' z => by rw [z.2]; exact hs) ?_ ?_⟩
      · rintro i x ys H' hx ⟨rfl, rfl⟩
        obtain ⟨e, he, oe⟩ := os.get hx
        obtain ⟨t, ty, _, _, hw⟩ := od_kn72 oe (hnd e (List.mem_of_getElem? he))
        refine ⟨_, rfl, _, rfl, ⟨t, ty⟩, lt72 (by rw [List.length_map, List.length_map, List.length_take]; omega), ?_, rfl⟩
        rw [hw, List.take_succ, he, List.map_append, List.map_append]; rfl
      · rintro ys H' ⟨rfl, rfl⟩ l hl'
        rw [xl, List.take_length]
        refine ⟨l, ds.map isI72, rfl, SqL.of upd_same, _, rfl, hk _ _ ⟨Grow.new hl' _, fun z => ?_, fun z => ?_⟩⟩
        · intro ho
          rw [List.all_map, show (ds.all (id ∘ isI72)) = ds.all isI72 from rfl, ord_all72 ho] at z
          cases z
        · rw [Bool.not_eq_false', List.all_map] at z
          obtain ⟨zs, rfl⟩ := ints72 (show ds.all isI72 = true from z)
          rw [ods_ints72 os] at hs
          exact ⟨r, zs, rfl, rfl, hs, by rw [List.length_map] at h64; exact h64⟩
  rintro b H1 ⟨g1, hb1, hb2⟩
  cases b with
  | true => exact iteT (q _ _ g1 ⟨(fun z => nomatch z), fun z => absurd z (hb1 rfl)⟩)
  | false =>
    obtain ⟨r, zs, rfl, rfl, hs, h64⟩ := hb2 rfl
    obtain ⟨l, rfl, hl'⟩ := hn
    refine iteF (c_next ⟨_, rfl, r, zs, rfl, g1.sqT hs, h64, fun p ms hp hperm hpw => ?_⟩)
    have gp := Grow.new (m := []) hp (.lst (ms.map V.int))
    refine ⟨_, rfl, p, l, _, _, rfl, rfl, SqL.of upd_same, (g1.trans gp).sqL hl', all_fl72 _, all_fn72 _, q _ _ (g1.trans gp) ?_⟩
    rw [if_neg (by decide), natsV_ints72, eqVs_ints, decide_eq_true_eq]
    exact ord_iff72 hperm hpw
theorem sc_fits_these : FnScope ["board", "calls", "numbers", "order"] ["board", "calls", "numbers", "order"] (defScope (top 27)) := ⟨rfl, rfl, rfl, by decide +kernel, rfl, by decide +kernel, by decide +kernel⟩
set_option maxHeartbeats 0 in
theorem ok_fits_these {n : Nat} {f : Addr} {fd : FuncData} (F : Fun K "fits_these" "fits_these" (top 27) f fd) (B : Blt mg) (c_are_answered : Callee P w K mg base n "are_answered" ["board", "calls", "order"] (sp_ans72 K)) (c_keeps_ahead : Callee P w K mg base n "keeps_ahead" ["calls", "order"] (sp_keep72 K)) (c_is_order : Callee P w K mg base n "is_order" ["thing", "numbers"] (sp_isord72 K))    :
    FnOk P w K mg base CX0 (n + 1) f fd ["board", "calls", "numbers", "order"] (sp_these72 K) := by
  refine F.ok sc_fits_these sp4_len (fun cdv A outer s H vs Q E hr h => ?_)
  obtain ⟨x, y, z, u, rfl, b, cs, d, m, hb, hc, hn, hd, ok, hl, q⟩ := h
  refine ⟨_, (pss_one (ps_ret (pe_and (pe_callC c_is_order hr rfl (pa_cons (pv 3) (pa_cons (pv 2) pa_nil))) (pe_and (pe_callC c_keeps_ahead hr rfl (pa_cons (pv 1) (pa_cons (pv 3) pa_nil))) (pe_one (pe_callC c_are_answered hr rfl (pa_cons (pv 0) (pa_cons (pv 1) (pa_cons (pv 3) pa_nil))))))))), ?_⟩
  refine ⟨_, rfl, _, rfl, _, _, rfl, d, m, cs.length, hd, hl, hn, fun b1 H1 g1 h1 => ⟨_, rfl, ?_⟩⟩
  cases b1 with
  | false =>
    refine iteF (q _ _ g1 ⟨(fun z => nomatch z), fun ⟨ns, o, _⟩ => absurd (h1.mpr ⟨ns, o⟩) (by decide)⟩)
  | true =>
    obtain ⟨ns, o⟩ := h1.mp rfl
    have hN : NumsT K H u ns := od_nums o.1 hd
    have hlt : ∀ k ∈ ns, k < cs.length := fun k hk => List.mem_range.mp (o.2.mem_iff.mp hk)
    have nl : ns.length = cs.length := by rw [o.2.length_eq, List.length_range]
    have iff : ∀ bb : Bool, bb = (kl72 cs ns && an72 cs b ns) → (bb = true ↔ Fit72 b cs d) := fun bb e => by
      rw [e, Bool.and_eq_true]
      exact ⟨fun z => ⟨ns, o, z.1, z.2⟩, fun ⟨ms, o', z1, z2⟩ => by rw [o.uniq o']; exact ⟨z1, z2⟩⟩
    refine iteT ⟨_, rfl, _, rfl, _, _, rfl, cs, ns, g1.calls72 hc, hN.grow g1, ⟨_, ok.ok⟩, hlt, by rw [nl]; exact ok.len, fun H2 g2 => ⟨_, rfl, ?_⟩⟩
    cases hk : kl72 cs ns with
    | false => exact iteF (q _ _ (g1.trans g2) (iff _ (by rw [hk]; rfl)))
    | true => exact iteT ⟨_, rfl, _, rfl, _, rfl, _, _, _, rfl, b, cs, ns, (g1.trans g2).board hb, (g1.trans g2).calls72 hc, hN.grow (g1.trans g2), ok.ok, hlt, fun H3 g3 => q _ _ (g1.trans (g2.trans g3)) (iff _ (by rw [hk]; rfl))⟩
theorem sc_by_boxes : FnScope ["board", "calls", "numbers", "number", "call"] ["board", "calls"] (defScope (top 21)) := ⟨rfl, rfl, rfl, by decide +kernel, rfl, by decide +kernel, by decide +kernel⟩
set_option maxHeartbeats 0 in
theorem ok_by_boxes {n : Nat} {f : Addr} {fd : FuncData} (F : Fun K "by_boxes" "by_boxes" (top 21) f fd) (B : Blt mg)  (g_enumerate : mg "enumerate" = none)   :
    FnOk P w K mg base CX0 (n + 1) f fd ["board", "calls"] (sp_byb72 K) := by
  refine F.ok sc_by_boxes sp2_len (fun cdv A outer s H vs Q E hr h => ?_)
  obtain ⟨x, y, rfl, b, cs, hb, hc, b16, ok, q⟩ := h
  refine ⟨_, (pss_cons (ps_compT (i := 2) sc_by_boxes.nd rfl rfl (CSc.of (N' := ["value"]) (sub := [none]) (defScope (top 21)) ["board", "calls", "numbers", "number", "call"] rfl rfl (by decide +kernel) rfl) rfl (pi_tup (pv 0)) (fun _ _ _ _ _ _ => pg_name (i := 0) (show (["value"] : List Str).Nodup by decide +kernel) rfl (Or.inl rfl)) (fun _ _ _ _ _ _ => pifs_nil) (fun _ _ _ _ _ _ => (pe_lst pa_nil))) (pss_cons (ps_for PassesOwn.never rfl (pi_enumC true (K := K) rfl rfl g_enumerate (pa_cons (pv 1) pa_nil)) (pg_tup rfl (pgs_cons (pg_name (i := 3) sc_by_boxes.nd rfl (Or.inl rfl)) (pgs_cons (pg_name (i := 4) sc_by_boxes.nd rfl (Or.inl rfl)) pgs_nil))) (pss_one (ps_expr (pe_bm PySem.F.plainAttrs_list PySem.F.slot_list_append PySem.F.type_list_append mt_append (pe_ix ix_list (pv 2) (pe_ix ix_tup (pv 4) pe_int (fun _ _ => rfl)) (fun _ _ => rfl)) (pa_cons (pv 3) pa_nil))))) (pss_one (ps_ret (pv 2))))), ?_⟩
  obtain ⟨rb, rfl, hrb⟩ := id hb
  obtain ⟨rc, xs, rfl, hrc, hall⟩ := id hc
  refine c_asg (fun v H' => ∃ (l : Addr) (as : List Addr), v = .ref l ∧ H' l = some (.lst (as.map V.ref)) ∧ l ∉ as ∧ H l = none ∧ as.length = b.length ∧ as.Nodup ∧ (∀ a ∈ as, H a = none ∧ H' a = some (.lst [])) ∧ Grow [] H H') (fun Kk hk => ⟨_, rfl, rb, rfl, ⟨_, hrb⟩, comp_tupP72 (xs := b.map V.int) (fun i ys H' => ∃ as : List Addr, ys = as.map V.ref ∧ as.length = i ∧ as.Nodup ∧ (∀ a ∈ as, H a = none ∧ H' a = some (.lst [])) ∧ Grow [] H H') ⟨[], rfl, rfl, List.nodup_nil, (fun a h => nomatch h), Grow.refl _ _⟩ (fun i ys H' ⟨_, _, _, _, _, g⟩ => g.sqT hrb) ?_ ?_⟩) ?_
  · rintro i x ys H' hx ⟨as, rfl, al, nd, ha, g⟩
    have hi := (List.getElem?_eq_some_iff.mp hx).1
    rw [List.length_map] at hi
    refine ⟨szl rfl, fun a h0 => ⟨lt72 (by rw [List.length_map]; omega), as ++ [a], by rw [List.map_append]; rfl, by rw [List.length_append, List.length_singleton, al], ?_, ?_, g.trans (Grow.new h0 _)⟩⟩
    · refine List.nodup_append.mpr ⟨nd, by simp, fun x hx y hy => ?_⟩
      rw [List.mem_singleton.mp hy]
      rintro rfl
      rw [(ha x hx).2] at h0; cases h0
    · intro x hx
      rcases List.mem_append.mp hx with hx | hx
      · exact ⟨(ha x hx).1, by rw [upd_ne (ne_of_none (ha x hx).2 h0)]; exact (ha x hx).2⟩
      · rw [List.mem_singleton.mp hx]
        exact ⟨g.free (by simp) h0, upd_same⟩
  · rintro ys H' ⟨as, rfl, al, nd, ha, g⟩ l hl
    rw [List.length_map] at al
    refine hk _ _ ⟨l, as, rfl, upd_same, fun z => ?_, g.free (by simp) hl, al, nd, fun a h => ⟨(ha a h).1, by rw [upd_ne (ne_of_none (ha a h).2 hl)]; exact (ha a h).2⟩, g.trans (Grow.new hl _)⟩
    rw [(ha l z).2] at hl; cases hl
  rintro _ H0 ⟨l, as, rfl, hl0, nl, nl0, al, nd, ha, g0⟩
  have xl := hall.len
  refine ⟨_, rfl, rc, _, rfl, g0.sqT hrc, for_enumC (xs := xs) (fun i σ H' => ∃ (nss : List (List Nat)) (e3 e4 : Option V), σ = [some (.ref rb), some (.ref rc), some (.ref l), e3, e4] ∧ H' l = some (.lst (as.map V.ref)) ∧ Bx72 H' as nss ∧ (∀ j, j < as.length → (nss.getD j []).length = cnt72 j (cs.take i)) ∧ Grow as H0 H') ⟨as.map fun _ => [], _, _, rfl, hl0, ⟨by rw [List.length_map], fun j a h => ?_⟩, fun j hj => ?_, Grow.refl _ _⟩ (fun i σ H' _ ⟨_, _, _, _, _, _, _, g⟩ => (g.sqT (g0.sqT hrc) : SqT K H' rc xs)) ?_ ?_⟩
  · rw [(ha a (List.mem_of_getElem? h)).2, List.getD_eq_getElem?_getD, List.getElem?_map, h]; rfl
  · rw [List.getD_eq_getElem?_getD, List.getElem?_map, List.getElem?_eq_getElem hj]; rfl
  · rintro i x σ H1 T hx ⟨nss, e3, e4, rfl, hl1, bx, hn, g1⟩ hT
    obtain ⟨c, hci, hcat⟩ := hall.get hx
    obtain ⟨rz, rd, rfl, sz, _⟩ := (g1.call72 (g0.call72 hcat))
    have gT := Grow.new (m := as) hT (.tup [.int i, .ref rz])
    have o := ok.ok c (List.mem_of_getElem? hci)
    have b0 := o.b0
    have b1 := o.b1
    obtain ⟨j, hj⟩ : ∃ j : Nat, c.box = j := ⟨c.box.toNat, by omega⟩
    have hjl : j < as.length := by omega
    have haj : as[j]? = some as[j] := List.getElem?_eq_getElem hjl
    have aT : ∀ {a : Addr} {o : HO}, H1 a = some o → upd H1 T (.tup [.int i, .ref rz]) a = some o := fun h => by rw [upd_ne (ne_of_none h hT)]; exact h
    have nT : (nss.getD j []).length ≤ 40 := by
      rw [hn j hjl]
      exact Nat.le_trans cnt_take (Nat.le_trans (ok.few j) (by decide))
    refine ⟨T, _, rfl, SqT.of upd_same, rfl, _, _, rfl, _, _, rfl, rfl, ?_⟩
    refine ⟨_, rfl, _, rfl, rz, _, 1, .int c.box, rfl, rfl, gT.sqT sz, atI_nat (j := 1) rfl, l, _, _, .ref as[j], rfl, rfl, SqL.of (aT hl1), by rw [hj]; exact atI_nat (by rw [List.getElem?_map, haj]; rfl), .inl ⟨rfl, _, SqL.of (aT (bx.at_ j _ haj))⟩, _, rfl, as[j], _, _, rfl, rfl, aT (bx.at_ j _ haj), lt72 (by rw [natsV_len]; omega), ?_⟩
    refine ⟨nss.set j (nss.getD j [] ++ [i]), _, _, rfl, ?_, ⟨by rw [List.length_set, bx.len], fun j' a' h' => ?_⟩, fun j' hj' => ?_, g1.trans (gT.trans (Grow.set (aT (bx.at_ j _ haj)) (List.mem_of_getElem? haj) _))⟩
    · rw [upd_ne (fun z => nl (by rw [z]; exact List.mem_of_getElem? haj))]; exact aT hl1
    · by_cases e : j' = j
      · subst e
        cases h'.symm.trans haj
        rw [upd_same, getD_set72 (by rw [bx.len]; exact hjl), natsV_app]; rfl
      · have ne : a' ≠ as[j] := fun z => e (by
          have h1 : as[j']? = as[j]? := by rw [h', haj, z]
          exact (List.getElem?_inj (by have := (List.getElem?_eq_some_iff.mp h').1; exact this) nd).mp h1)
        rw [upd_ne ne, aT (bx.at_ j' a' h'), getD_setne72 (fun z => e z.symm)]
    · have et : cs.take (i + 1) = cs.take i ++ [c] := by rw [List.take_succ, hci]; rfl
      rw [et, cnt_snoc]
      by_cases e : j' = j
      · subst e
        rw [if_pos hj, getD_set72 (by rw [bx.len]; exact hjl), List.length_append, List.length_singleton, hn j' hj']
      · rw [if_neg (by omega), getD_setne72 (fun z => e z.symm), hn j' hj']; rfl
  · rintro σ H1 ⟨nss, e3, e4, rfl, hl1, bx, hn, g1⟩
    rw [xl, List.take_length] at hn
    refine ⟨_, rfl, q l _ nss _ (Grow.shrinkL (fun a h => (ha a h).1) (g0.wk.trans g1)) hl1 bx.ls (fun ns h => ?_) (by rw [List.length_map]; omega)⟩
    obtain ⟨j, hj⟩ := List.getElem?_of_mem h
    have hjl := (List.getElem?_eq_some_iff.mp hj).1
    have := hn j (by rw [← bx.len]; exact hjl)
    rw [List.getD_eq_getElem?_getD, hj] at this
    exact Nat.le_trans (Nat.le_of_eq this) (ok.few j)
theorem sc_is_end : FnScope ["thing"] ["thing"] (defScope (top 8)) := ⟨rfl, rfl, rfl, by decide +kernel, rfl, by decide +kernel, by decide +kernel⟩
set_option maxHeartbeats 0 in
theorem ok_is_end {n : Nat} {f : Addr} {fd : FuncData} (F : Fun K "is_end" "is_end" (top 8) f fd) (B : Blt mg) (c_is_whole : Callee P w K mg base n "is_whole" ["thing"] (sp_is_whole K))    :
    FnOk P w K mg base CX0 (n + 1) f fd ["thing"] (sp_is_end K) := by
  refine F.ok sc_is_end sp1_len (fun cdv A outer s H vs Q E hr h => ?_)
  obtain ⟨x, rfl, kn, q⟩ := h
  refine ⟨_, (pss_one (ps_ret (pe_or (pe_cmp (pc_isN (pv 0))) (pe_one (pe_callC c_is_whole hr rfl (pa_cons (pv 0) pa_nil)))))), ?_⟩
  refine ⟨x, rfl, _, rfl, ?_⟩
  cases x with
  | non => exact iteT q
  | _ => exact iteF ⟨_, rfl, _, rfl, kn, q⟩
theorem sc_is_deed : FnScope ["thing", "add", "low", "high"] ["thing"] (defScope (top 9)) := ⟨rfl, rfl, rfl, by decide +kernel, rfl, by decide +kernel, by decide +kernel⟩
set_option maxHeartbeats 0 in
theorem ok_is_deed {n : Nat} {f : Addr} {fd : FuncData} (F : Fun K "is_deed" "is_deed" (top 9) f fd) (B : Blt mg) (c_is_end : Callee P w K mg base n "is_end" ["thing"] (sp_is_end K)) (c_is_whole : Callee P w K mg base n "is_whole" ["thing"] (sp_is_whole K))    :
    FnOk P w K mg base CX0 (n + 1) f fd ["thing"] (sp_is_deed K) := by
  refine F.ok sc_is_deed sp1_len (fun cdv A outer s H vs Q E hr h => ?_)
  obtain ⟨x, rfl, h⟩ := h
  refine ⟨_, (pss_cons (ps_if (PW.pt (pw_or (pt_not (pt_val (pe_callB call_isi rfl B.isinstance b_isinstance (pa_cons (pv 0) (pa_cons (pe_tyn rfl B.tuple b_tuple) pa_nil))))) (pw_or1 (pt_cmpR op_ne (pe_callB call_len_seq rfl B.len b_len (pa_cons (pv 0) pa_nil)) pe_int (nomark _))))) (pss_one (ps_ret pe_bl)) pss_nil) (pss_cons (ps_asg (pv 0) (pg_tup rfl (pgs_cons (pg_name (i := 1) sc_is_deed.nd rfl (Or.inl rfl)) (pgs_cons (pg_name (i := 2) sc_is_deed.nd rfl (Or.inl rfl)) (pgs_cons (pg_name (i := 3) sc_is_deed.nd rfl (Or.inl rfl)) pgs_nil))))) (pss_cons (ps_if (pt_not (PW.pt (pw_and (pt_val (pe_callC c_is_whole hr rfl (pa_cons (pv 1) pa_nil))) (pw_and (pt_val (pe_callC c_is_end hr rfl (pa_cons (pv 2) pa_nil))) (pw_and1 (pt_val (pe_callC c_is_end hr rfl (pa_cons (pv 3) pa_nil)))))))) (pss_one (ps_ret pe_bl)) pss_nil) (pss_cons (ps_if (PW.pt (pw_or (pt_cmp (pc_isN (pv 2))) (pw_or1 (pt_cmp (pc_isN (pv 3)))))) (pss_one (ps_ret pe_bl)) pss_nil) (pss_one (ps_ret (pe_or (pe_cmpR op_lt (pv 2) (pv 3) (nomark _)) (pe_one (pe_and (pe_cmpR op_eq (pv 2) (pv 3) (nomark _)) (pe_one (pe_cmpR op_eq (pv 1) pe_int (nomark _)))))))))))), ?_⟩
  rcases h with ⟨T, hT, ty, q⟩ | ⟨a, xs, rfl, hs, hk, q⟩
  · have kt : PySem.W.kitOne K (.type T) (.type "tuple") = some false := by
      cases x with
      | non => cases (show T = "NoneType" from ty); rfl
      | bl y => cases (show T = "bool" from ty); rfl
      | int i => cases (show T = "int" from ty); rfl
      | str y => cases (show T = "str" from ty); rfl
      | byt y => exact ty.elim
      | flt y => exact ty.elim
      | ty y => exact ty.elim
      | ref a =>
        rcases ty with ⟨rfl, xs, hq⟩ | ⟨rfl, xs, hq⟩ | ⟨rfl, kvs, hq⟩
        · exact absurd rfl hT
        · rfl
        · rfl
    exact ⟨_, rfl, _, _, _, false, rfl, ty, kt, _, rfl, iteT (iteT q)⟩
  · refine ⟨_, rfl, _, _, _, true, rfl, .inl ⟨rfl, xs, hs⟩, rfl, _, rfl, iteF ⟨_, rfl, a, xs, rfl, .inr hs, rfl, _, rfl, ?_⟩⟩
    by_cases hl : xs.length = 3
    · obtain ⟨y1, y2, y3, rfl⟩ := len3 hl
      refine iteF ⟨_, rfl, a, _, rfl, hs, rfl, _, _, rfl, _, _, rfl, _, _, rfl, rfl, ?_⟩
      refine ⟨_, rfl, _, rfl, hk y1 (by simp), _, rfl, ?_⟩
      refine ite2 (fun c1 => ?_) (fun c1 => ?_)
      · obtain ⟨i1, rfl⟩ := whole_int c1
        refine ⟨_, rfl, _, rfl, hk y2 (by simp), _, rfl, ?_⟩
        refine ite2 (fun c2 => ?_) (fun c2 => ?_)
        · obtain ⟨o2, rfl⟩ := end_ov c2
          refine ⟨_, rfl, _, rfl, hk y3 (by simp), _, rfl, ?_⟩
          by_cases c3 : endV y3 = true
          · obtain ⟨o3, rfl⟩ := end_ov c3
            rw [c3]
            refine iteF ?_
            cases o2 with
            | none => exact ⟨_, rfl, _, rfl, iteT (iteT (by cases o3 <;> exact q))⟩
            | some l =>
              cases o3 with
              | none => exact ⟨_, rfl, _, rfl, iteF ⟨_, rfl, _, rfl, iteT q⟩⟩
              | some u =>
                refine ⟨_, rfl, _, rfl, iteF ⟨_, rfl, _, rfl, iteF ?_⟩⟩
                refine ⟨_, rfl, _, rfl, _, _, rfl, rfl, _, rfl, ?_⟩
                have q' : Q (.bl (decide (l < u) || (decide (l = u) && decide (i1 = 0)))) H := q
                refine ite2 (fun c => ?_) (fun c => ?_)
                · rw [c] at q'; exact q'
                · rw [Bool.eq_false_iff.mpr c] at q'
                  refine ⟨_, rfl, _, rfl, rfl, _, rfl, ?_⟩
                  refine ite2 (fun d => ?_) (fun d => ?_)
                  · have d' : l = u := V.int.inj (of_decide_eq_true d)
                    refine ⟨_, rfl, rfl, ?_⟩
                    rw [decide_eq_true d'] at q'
                    have e : decide (V.int i1 = V.int 0) = decide (i1 = 0) := by simp
                    rw [e]; exact q'
                  · have d' : ¬ l = u := fun z => d (by rw [z]; simp)
                    rw [decide_eq_false d'] at q'
                    exact q'
          · have e : endV y3 = false := Bool.eq_false_iff.mpr c3
            rw [e]
            refine iteT ?_
            have z : tupDeed [V.int i1, ov o2, y3] = false := by show (true && (endV (ov o2) && (endV y3 && _))) = false; rw [e]; simp
            rw [z] at q; exact q
        · have e : endV y2 = false := Bool.eq_false_iff.mpr c2
          refine iteT ?_
          have z : tupDeed [V.int i1, y2, y3] = false := by show (true && (endV y2 && (endV y3 && _))) = false; rw [e]; simp
          rw [z] at q; exact q
      · have e : wholeV y1 = false := Bool.eq_false_iff.mpr c1
        refine iteT ?_
        have z : tupDeed [y1, y2, y3] = false := by show (wholeV y1 && (endV y2 && (endV y3 && _))) = false; rw [e]; simp
        rw [z] at q; exact q
    · have e : decide (V.int (xs.length : Int) = V.int 3) = false := decide_eq_false fun z => hl (by have := V.int.inj z; omega)
      rw [e]
      refine iteT ?_
      rw [tupDeed_len hl] at q; exact q
theorem sc_is_within : FnScope ["thing", "least", "greatest"] ["thing", "least", "greatest"] (defScope (top 6)) := ⟨rfl, rfl, rfl, by decide +kernel, rfl, by decide +kernel, by decide +kernel⟩
set_option maxHeartbeats 0 in
theorem ok_is_within {n : Nat} {f : Addr} {fd : FuncData} (F : Fun K "is_within" "is_within" (top 6) f fd) (B : Blt mg) (c_is_whole : Callee P w K mg base n "is_whole" ["thing"] (sp_is_whole K))    :
    FnOk P w K mg base CX0 (n + 1) f fd ["thing", "least", "greatest"] (sp_is_within K) := by
  refine F.ok sc_is_within sp3_len (fun cdv A outer s H vs Q E hr h => ?_)
  obtain ⟨x, y, z, rfl, i, l, u, rfl, rfl, rfl, q⟩ := h
  refine ⟨_, (pss_one (ps_ret (pe_and (pe_callC c_is_whole hr rfl (pa_cons (pv 0) pa_nil)) (pe_one (pe_chain op_le op_le (pv 1) (pv 0) (pv 2)))))), ?_⟩
  refine ⟨_, rfl, _, rfl, kn_int, _, rfl, iteT ⟨_, rfl, _, rfl, _, _, rfl, rfl, _, rfl, ?_⟩⟩
  by_cases c : l ≤ i
  · refine iteT' (decide_eq_true c) ⟨_, rfl, _, _, rfl, rfl, ?_⟩
    rw [decide_eq_true c] at q; exact q
  · refine iteF' (decide_eq_false c) ?_
    rw [decide_eq_false c] at q; exact q
theorem sc_is_ask : FnScope ["board", "thing", "hand", "box", "deed"] ["board", "thing"] (defScope (top 16)) := ⟨rfl, rfl, rfl, by decide +kernel, rfl, by decide +kernel, by decide +kernel⟩
set_option maxHeartbeats 0 in
theorem ok_is_ask {n : Nat} {f : Addr} {fd : FuncData} (F : Fun K "is_ask" "is_ask" (top 16) f fd) (B : Blt mg) (c_is_deed : Callee P w K mg base n "is_deed" ["thing"] (sp_is_deed K)) (c_is_within : Callee P w K mg base n "is_within" ["thing", "least", "greatest"] (sp_is_within K))  {t_LAST_HAND : Tok} (g_LAST_HAND : mg "LAST_HAND" = some (.int 15 t_LAST_HAND))  :
    FnOk P w K mg base CX0 (n + 1) f fd ["board", "thing"] (sp_is_ask K) := by
  refine F.ok sc_is_ask sp2_len (fun cdv A outer s H vs Q E hr h => ?_)
  obtain ⟨x, y, rfl, b, k, ⟨rb, rfl, hb⟩, ⟨r, rd, rfl, h1, h2⟩, ⟨k1, k2, k3, k4, k5⟩, q⟩ := h
  refine ⟨_, (pss_cons (ps_if (PW.pt (pw_or (pt_not (pt_val (pe_callB call_isi rfl B.isinstance b_isinstance (pa_cons (pv 1) (pa_cons (pe_tyn rfl B.tuple b_tuple) pa_nil))))) (pw_or1 (pt_cmpR op_ne (pe_callB call_len_seq rfl B.len b_len (pa_cons (pv 1) pa_nil)) pe_int (nomark _))))) (pss_one (ps_ret pe_bl)) pss_nil) (pss_cons (ps_asg (pv 1) (pg_tup rfl (pgs_cons (pg_name (i := 2) sc_is_ask.nd rfl (Or.inl rfl)) (pgs_cons (pg_name (i := 3) sc_is_ask.nd rfl (Or.inl rfl)) (pgs_cons (pg_name (i := 4) sc_is_ask.nd rfl (Or.inl rfl)) pgs_nil))))) (pss_one (ps_ret (pe_and (pe_callC c_is_within hr rfl (pa_cons (pv 2) (pa_cons pe_int (pa_cons (pe_glob rfl g_LAST_HAND (show RelV (.int 15) (.int 15 t_LAST_HAND) from ⟨_, rfl⟩)) pa_nil)))) (pe_and (pe_callC c_is_within hr rfl (pa_cons (pv 3) (pa_cons pe_int (pa_cons (pe_op op_sub (pe_callB call_len_seq rfl B.len b_len (pa_cons (pv 0) pa_nil)) pe_int) pa_nil)))) (pe_one (pe_callC c_is_deed hr rfl (pa_cons (pv 4) pa_nil))))))))), ?_⟩
  have hl : (b.map V.int).length = b.length := List.length_map ..
  refine ⟨_, rfl, _, _, _, true, rfl, .inl ⟨rfl, _, h1⟩, rfl, _, rfl, iteF ⟨_, rfl, r, _, rfl, .inr h1, rfl, _, rfl, iteF ?_⟩⟩
  refine ⟨_, rfl, r, _, rfl, h1, rfl, _, _, rfl, _, _, rfl, _, _, rfl, rfl, ?_⟩
  refine ⟨_, rfl, _, _, _, rfl, _, _, _, rfl, rfl, rfl, _, rfl, iteT' (by rw [decide_eq_true k1, decide_eq_true k2]; rfl) ?_⟩
  refine ⟨_, rfl, _, rfl, rb, _, rfl, .inr hb, _, _, rfl, rfl, _, _, _, rfl, _, _, _, rfl, rfl, rfl, _, rfl, iteT' (by rw [decide_eq_true k3, decide_eq_true (show k.box ≤ ((b.map V.int).length : Int) - 1 by rw [hl]; omega)]; rfl) ?_⟩
  refine ⟨_, rfl, _, rfl, .inr ⟨rd, _, rfl, h2, ?_, ?_⟩⟩
  · intro v hv
    simp only [Deed.vs, List.mem_cons, List.mem_nil_iff, or_false] at hv
    rcases hv with rfl | rfl | rfl
    · exact kn_int
    · exact kn_ov _
    · exact kn_ov _
  · rw [tupDeed_ok k5]; exact q
theorem sc_is_call : FnScope ["board", "thing", "begun", "ended", "answer"] ["board", "thing"] (defScope (top 20)) := ⟨rfl, rfl, rfl, by decide +kernel, rfl, by decide +kernel, by decide +kernel⟩
set_option maxHeartbeats 0 in
theorem ok_is_call {n : Nat} {f : Addr} {fd : FuncData} (F : Fun K "is_call" "is_call" (top 20) f fd) (B : Blt mg) (c_is_whole : Callee P w K mg base n "is_whole" ["thing"] (sp_is_whole K)) (c_is_ask : Callee P w K mg base n "is_ask" ["board", "thing"] (sp_is_ask K))    :
    FnOk P w K mg base CX0 (n + 1) f fd ["board", "thing"] (sp_is_call72 K) := by
  refine F.ok sc_is_call sp2_len (fun cdv A outer s H vs Q E hr h => ?_)
  obtain ⟨x, y, rfl, b, c, hb, hc, ok, q⟩ := h
  refine ⟨_, (pss_cons (ps_if (PW.pt (pw_or (pt_not (pt_val (pe_callB call_isi rfl B.isinstance b_isinstance (pa_cons (pv 1) (pa_cons (pe_tyn rfl B.tuple b_tuple) pa_nil))))) (pw_or (pt_cmpR op_ne (pe_callB call_len_seq rfl B.len b_len (pa_cons (pv 1) pa_nil)) pe_int (nomark _)) (pw_or1 (pt_not (pt_val (pe_callC c_is_ask hr rfl (pa_cons (pv 0) (pa_cons (pe_slice sl_tup (pv 1) po_none (po_some pe_int)) pa_nil))))))))) (pss_one (ps_ret pe_bl)) pss_nil) (pss_cons (ps_asg (pe_slice sl_tup (pv 1) (po_some pe_int) po_none) (pg_tup rfl (pgs_cons (pg_name (i := 2) sc_is_call.nd rfl (Or.inl rfl)) (pgs_cons (pg_name (i := 3) sc_is_call.nd rfl (Or.inl rfl)) (pgs_cons (pg_name (i := 4) sc_is_call.nd rfl (Or.inl rfl)) pgs_nil))))) (pss_one (ps_ret (pe_and (pe_callC c_is_whole hr rfl (pa_cons (pv 2) pa_nil)) (pe_and (pe_callC c_is_whole hr rfl (pa_cons (pv 3) pa_nil)) (pe_and (pe_callC c_is_whole hr rfl (pa_cons (pv 4) pa_nil)) (pe_one (pe_chain op_le op_le pe_int (pv 2) (pv 3)))))))))), ?_⟩
  obtain ⟨r, rd, rfl, hr0, hrd⟩ := id hc
  refine c_test (fun b H' => b = false ∧ Grow [] H H') (fun Kk hk => ⟨_, rfl, _, "tuple", "tuple", true, rfl, .inl ⟨rfl, _, hr0⟩, rfl, _, rfl, iteF ⟨_, rfl, r, _, rfl, .inr hr0, rfl, _, rfl, iteF ⟨_, rfl, _, rfl, _, rfl, r, _, rfl, hr0, (fun z => absurd z.2 (by decide : ¬ HT.sIx 6 6 (some 3) = 6)), fun p hp => ⟨_, _, rfl, b, ⟨c.hand, c.box, c.deed⟩, (Grow.new (m := []) hp _).board hb, ⟨p, rd, rfl, SqT.of upd_same, (Grow.new (m := []) hp _).sqT hrd⟩, ⟨ok.h0, ok.h1, ok.b0, ok.b1, ok.d⟩, _, rfl, hk _ _ ⟨rfl, Grow.new hp _⟩⟩⟩⟩⟩) ?_
  rintro _ H1 ⟨rfl, g1⟩
  refine iteF (c_next ?_)
  refine ⟨_, rfl, _, rfl, r, _, rfl, g1.sqT hr0, (fun z => absurd z.1 (by decide : ¬ HT.sIx 6 0 (some 3) = 0)), fun p hp => ⟨p, _, rfl, SqT.of upd_same, rfl, _, _, rfl, _, _, rfl, _, _, rfl, rfl, ?_⟩⟩
  refine ⟨_, rfl, _, rfl, kn_int, _, rfl, iteT ⟨_, rfl, _, rfl, kn_int, _, rfl, iteT ⟨_, rfl, _, rfl, kn_int, _, rfl, iteT ⟨_, rfl, _, _, rfl, rfl, _, rfl, iteT' (decide_eq_true ok.t0) ⟨_, rfl, _, _, rfl, rfl, ?_⟩⟩⟩⟩⟩
  have := q _ (g1.trans (Grow.new hp (.tup (cutV (c.vs rd) (some 3) none))))
  rw [← decide_eq_true ok.t1] at this
  exact this
theorem sc_is_board : FnScope ["thing"] ["thing"] (defScope (top 14)) := ⟨rfl, rfl, rfl, by decide +kernel, rfl, by decide +kernel, by decide +kernel⟩
set_option maxHeartbeats 0 in
theorem ok_is_board {n : Nat} {f : Addr} {fd : FuncData} (F : Fun K "is_board" "is_board" (top 14) f fd) (B : Blt mg) (c_is_whole : Callee P w K mg base n "is_whole" ["thing"] (sp_is_whole K))  {t_MOST_BOXES : Tok} (g_MOST_BOXES : mg "MOST_BOXES" = some (.int 16 t_MOST_BOXES))  :
    FnOk P w K mg base CX0 (n + 1) f fd ["thing"] (sp_is_board K) := by
  refine F.ok sc_is_board sp1_len (fun cdv A outer s H vs Q E hr h => ?_)
  obtain ⟨x, rfl, b, ⟨r, rfl, hs⟩, b1, b2, q⟩ := h
  refine ⟨_, (pss_cons (ps_if (PW.pt (pw_or (pt_not (pt_val (pe_callB call_isi rfl B.isinstance b_isinstance (pa_cons (pv 0) (pa_cons (pe_tyn rfl B.tuple b_tuple) pa_nil))))) (pw_or1 (pt_not (pt_chain op_le op_le pe_int (pe_callB call_len_seq rfl B.len b_len (pa_cons (pv 0) pa_nil)) (pe_glob rfl g_MOST_BOXES (show RelV (.int 16) (.int 16 t_MOST_BOXES) from ⟨_, rfl⟩))))))) (pss_one (ps_ret pe_bl)) pss_nil) (pss_one (ps_ret (pe_callB (call_allB rfl) rfl B.all b_all (pa_cons (pe_compT (CSc.of (N' := ["value"]) (sub := [none]) (defScope (top 14)) ["thing"] rfl rfl (by decide +kernel) rfl) rfl (pi_tup (pv 0)) (fun _ _ _ _ _ _ => pg_name (i := 0) (show (["value"] : List Str).Nodup by decide +kernel) rfl (Or.inl rfl)) (fun _ _ _ _ _ _ => pifs_nil) (fun _ _ _ _ _ _ => (pe_callC c_is_whole hr rfl (pa_cons (pv 0) pa_nil)))) pa_nil))))), ?_⟩
  have hl : (b.map V.int).length = b.length := List.length_map ..
  refine ⟨_, rfl, _, _, _, true, rfl, .inl ⟨rfl, _, hs⟩, rfl, _, rfl, iteF ?_⟩
  refine ⟨_, rfl, r, _, rfl, .inr hs, _, _, rfl, rfl, _, rfl, iteT' (decide_eq_true (by rw [hl]; omega)) ⟨_, _, rfl, rfl, _, rfl, iteF' (by rw [decide_eq_true (show ((b.map V.int).length : Int) ≤ 16 by rw [hl]; omega)]; rfl) ?_⟩⟩
  refine ⟨_, rfl, r, rfl, ⟨_, hs⟩, comp_mapT (fun _ => V.bl true) hs (by rw [hl]; omega) ?_ ?_⟩
  · intro x H1 R hx g k
    obtain ⟨i, _, rfl⟩ := List.mem_map.mp hx
    exact ⟨_, rfl, _, rfl, kn_int, k _ (Grow.refl _ _)⟩
  · intro H1 p g hp
    refine ⟨p, b.map (fun _ => true), rfl, SqL.of (by rw [upd_same, trues_eq]), ?_⟩
    rw [all_trues]
    exact q _ (g.trans (Grow.new hp _))
theorem sc_need_board : FnScope ["thing"] ["thing"] (defScope (top 15)) := ⟨rfl, rfl, rfl, by decide +kernel, rfl, by decide +kernel, by decide +kernel⟩
set_option maxHeartbeats 0 in
theorem ok_need_board {n : Nat} {f : Addr} {fd : FuncData} (F : Fun K "need_board" "need_board" (top 15) f fd) (B : Blt mg) (c_is_board : Callee P w K mg base n "is_board" ["thing"] (sp_is_board K))    :
    FnOk P w K mg base CX0 (n + 1) f fd ["thing"] (sp_need_board K) := by
  refine F.ok sc_need_board sp1_len (fun cdv A outer s H vs Q E hr h => ?_)
  obtain ⟨x, rfl, b, hb, b1, b2, q⟩ := h
  refine ⟨_, (pss_one (ps_if (pt_not (pt_val (pe_callC c_is_board hr rfl (pa_cons (pv 0) pa_nil)))) (pss_one ps_never) pss_nil)), ?_⟩
  exact ⟨_, rfl, _, rfl, b, hb, b1, b2, fun H1 g1 => ⟨_, rfl, iteF (q _ g1)⟩⟩
theorem sc_are_calls : FnScope ["board", "thing"] ["board", "thing"] (defScope (top 22)) := ⟨rfl, rfl, rfl, by decide +kernel, rfl, by decide +kernel, by decide +kernel⟩
set_option maxHeartbeats 0 in
theorem ok_are_calls {n : Nat} {f : Addr} {fd : FuncData} (F : Fun K "are_calls" "are_calls" (top 22) f fd) (B : Blt mg) (c_by_boxes : Callee P w K mg base n "by_boxes" ["board", "calls"] (sp_byb72 K)) (c_is_call : Callee P w K mg base n "is_call" ["board", "thing"] (sp_is_call72 K)) (c_need_board : Callee P w K mg base n "need_board" ["thing"] (sp_need_board K))  {t_MOST_AT_A_BOX : Tok} (g_MOST_AT_A_BOX : mg "MOST_AT_A_BOX" = some (.int 8 t_MOST_AT_A_BOX)) {t_MOST_CALLS : Tok} (g_MOST_CALLS : mg "MOST_CALLS" = some (.int 40 t_MOST_CALLS))  :
    FnOk P w K mg base CX0 (n + 1) f fd ["board", "thing"] (sp_are72 K) := by
  refine F.ok sc_are_calls sp2_len (fun cdv A outer s H vs Q E hr h => ?_)
  obtain ⟨x, y, rfl, b, cs, hb, b1, b16, hc, ok, q⟩ := h
  refine ⟨_, (pss_cons (ps_expr (pe_callC c_need_board hr rfl (pa_cons (pv 0) pa_nil))) (pss_cons (ps_if (PW.pt (pw_or (pt_not (pt_val (pe_callB call_isi rfl B.isinstance b_isinstance (pa_cons (pv 1) (pa_cons (pe_tyn rfl B.tuple b_tuple) pa_nil))))) (pw_or1 (pt_cmpR op_gt (pe_callB call_len_seq rfl B.len b_len (pa_cons (pv 1) pa_nil)) (pe_glob rfl g_MOST_CALLS (show RelV (.int 40) (.int 40 t_MOST_CALLS) from ⟨_, rfl⟩)) (nomark _))))) (pss_one (ps_ret pe_bl)) pss_nil) (pss_cons (ps_if (pt_not (pt_val (pe_callB (call_allB rfl) rfl B.all b_all (pa_cons (pe_compT (CSc.of (N' := ["call", "board"]) (sub := [none, some 0]) (defScope (top 22)) ["board", "thing"] rfl rfl (by decide +kernel) rfl) rfl (pi_tup (pv 1)) (fun _ _ _ _ _ _ => pg_name (i := 0) (show (["call", "board"] : List Str).Nodup by decide +kernel) rfl (Or.inl rfl)) (fun _ _ _ _ _ _ => pifs_nil) (fun _ _ _ _ _ _ => (pe_callC c_is_call hr rfl (pa_cons (pv 1) (pa_cons (pv 0) pa_nil))))) pa_nil)))) (pss_one (ps_ret pe_bl)) pss_nil) (pss_one (ps_ret (pe_callB (call_allB rfl) rfl B.all b_all (pa_cons (pe_compT (CSc.of (N' := ["numbers"]) (sub := [none]) (defScope (top 22)) ["board", "thing"] rfl rfl (by decide +kernel) rfl) rfl (pi_list (pe_callC c_by_boxes hr rfl (pa_cons (pv 0) (pa_cons (pv 1) pa_nil)))) (fun _ _ _ _ _ _ => pg_name (i := 0) (show (["numbers"] : List Str).Nodup by decide +kernel) rfl (Or.inl rfl)) (fun _ _ _ _ _ _ => pifs_nil) (fun _ _ _ _ _ _ => (pe_cmpR op_le (pe_callB (call_lenK (K := K) rfl) rfl B.len b_len (pa_cons (pv 0) pa_nil)) (pe_glob rfl g_MOST_AT_A_BOX (show RelV (.int 8) (.int 8 t_MOST_AT_A_BOX) from ⟨_, rfl⟩)) (nomark _)))) pa_nil))))))), ?_⟩
  obtain ⟨rc, xs, rfl, hrc, hall⟩ := id hc
  have xl := hall.len
  have cl := ok.len
  refine ⟨_, rfl, _, rfl, b, hb, b1, b16, fun H0 g0 => ?_⟩
  try dsimp only
  refine c_test (fun b H' => b = false ∧ H' = H0) (fun Kk hk => ⟨_, rfl, _, "tuple", "tuple", true, rfl, .inl ⟨rfl, _, g0.sqT hrc⟩, rfl, _, rfl, iteF ⟨_, rfl, rc, _, rfl, .inr (g0.sqT hrc), _, _, rfl, rfl, _, rfl, hk _ _ ⟨decide_eq_false (by omega), rfl⟩⟩⟩) ?_
  rintro _ H0 ⟨rfl, rfl⟩
  refine iteF (c_next ?_)
  refine c_test (fun b H' => b = false ∧ Grow [] H0 H') (fun Kk hk => ⟨_, rfl, rc, rfl, ⟨_, g0.sqT hrc⟩, comp_tupP72 (xs := xs) (fun i ys H' => ys = (List.replicate i true).map V.bl ∧ Grow [] H0 H') ⟨rfl, Grow.refl _ _⟩ (fun i ys H' ⟨_, g⟩ => (g0.trans g).sqT hrc) ?_ ?_⟩) ?_
  · rintro i x ys H' hx ⟨rfl, g'⟩
    have hi := (List.getElem?_eq_some_iff.mp hx).1
    obtain ⟨c, hci, hcat⟩ := hall.get hx
    refine ⟨_, rfl, _, rfl, _, _, rfl, b, c, (g0.trans g').board hb, (g0.trans g').call72 hcat, ok.ok c (List.mem_of_getElem? hci), fun H2 g2 => ⟨lt72 (by rw [List.length_map, List.length_replicate]; omega), by rw [List.replicate_succ', List.map_append]; rfl, g'.trans g2⟩⟩
  · rintro ys H' ⟨rfl, g'⟩ l hl
    exact ⟨l, List.replicate xs.length true, rfl, SqL.of upd_same, _, rfl, hk _ _ ⟨by rw [all_rep72]; rfl, g'.trans (Grow.new hl _)⟩⟩
  rintro _ H1 ⟨rfl, g1⟩
  refine iteF (c_next ?_)
  refine ⟨_, rfl, _, rfl, _, _, rfl, b, cs, (g0.trans g1).board hb, (g0.trans g1).calls72 hc, b16, ok, fun l zs nss H2 g2 hl2 hz n8 z16 => ⟨l, rfl, ⟨_, SqL.of hl2⟩, comp_listP (xs := zs) (fun i ys H' => ys = (List.replicate i true).map V.bl ∧ H' = H2) ⟨rfl, rfl⟩ (fun i ys H' z => by rw [z.2]; exact SqL.of hl2) ?_ ?_⟩⟩
  · rintro i x ys H' hx ⟨rfl, rfl⟩
    have hi := (List.getElem?_eq_some_iff.mp hx).1
    obtain ⟨ns, hni, a, rfl, hA⟩ := hz.get hx
    have n8' := n8 ns (List.mem_of_getElem? hni)
    refine ⟨_, rfl, a, _, rfl, .inl (SqL.of hA), _, _, rfl, rfl, lt72 (by rw [List.length_map, List.length_replicate]; omega), ?_, rfl⟩
    have e8 : decide (((natsV ns).length : Int) ≤ 8) = true := decide_eq_true (by rw [natsV_len]; omega)
    rw [List.replicate_succ', List.map_append]
    show _ ++ [V.bl (decide (((natsV ns).length : Int) ≤ 8))] = _
    rw [e8]; rfl
  · rintro ys H' ⟨rfl, rfl⟩ l' hl'
    refine ⟨l', List.replicate zs.length true, rfl, SqL.of upd_same, ?_⟩
    rw [all_rep72]
    exact q _ (g0.trans (g1.trans (g2.trans (Grow.new hl' _))))
theorem sc_need_calls : FnScope ["board", "thing"] ["board", "thing"] (defScope (top 23)) := ⟨rfl, rfl, rfl, by decide +kernel, rfl, by decide +kernel, by decide +kernel⟩
set_option maxHeartbeats 0 in
theorem ok_need_calls {n : Nat} {f : Addr} {fd : FuncData} (F : Fun K "need_calls" "need_calls" (top 23) f fd) (B : Blt mg) (c_are_calls : Callee P w K mg base n "are_calls" ["board", "thing"] (sp_are72 K))    :
    FnOk P w K mg base CX0 (n + 1) f fd ["board", "thing"] (sp_need72 K) := by
  refine F.ok sc_need_calls sp2_len (fun cdv A outer s H vs Q E hr h => ?_)
  obtain ⟨x, y, rfl, b, cs, hb, b1, b16, hc, ok, q⟩ := h
  refine ⟨_, (pss_one (ps_if (pt_not (pt_val (pe_callC c_are_calls hr rfl (pa_cons (pv 0) (pa_cons (pv 1) pa_nil))))) (pss_one ps_never) pss_nil)), ?_⟩
  exact ⟨_, rfl, _, rfl, _, _, rfl, b, cs, hb, b1, b16, hc, ok, fun H' g => ⟨_, rfl, iteF (q _ g)⟩⟩
theorem sc_fits : FnScope ["board", "calls", "order"] ["board", "calls", "order"] (defScope (top 28)) := ⟨rfl, rfl, rfl, by decide +kernel, rfl, by decide +kernel, by decide +kernel⟩
set_option maxHeartbeats 0 in
theorem ok_fits {n : Nat} {f : Addr} {fd : FuncData} (F : Fun K "fits" "fits" (top 28) f fd) (B : Blt mg) (c_fits_these : Callee P w K mg base n "fits_these" ["board", "calls", "numbers", "order"] (sp_these72 K)) (c_need_calls : Callee P w K mg base n "need_calls" ["board", "thing"] (sp_need72 K))    :
    FnOk P w K mg base CX0 (n + 1) f fd ["board", "calls", "order"] (sp_fits72 K) := by
  refine F.ok sc_fits sp3_len (fun cdv A outer s H vs Q E hr h => ?_)
  obtain ⟨x, y, z, rfl, b, cs, d, m, hb, b1, b16, hc, hd, ok, hl, q⟩ := h
  refine ⟨_, (pss_cons (ps_expr (pe_callC c_need_calls hr rfl (pa_cons (pv 0) (pa_cons (pv 1) pa_nil)))) (pss_one (ps_ret (pe_callC c_fits_these hr rfl (pa_cons (pv 0) (pa_cons (pv 1) (pa_cons (pe_listRange rfl rfl B.list rfl B.range (pa_cons (pe_callB call_len_seq rfl B.len b_len (pa_cons (pv 1) pa_nil)) pa_nil)) (pa_cons (pv 2) pa_nil)))))))), ?_⟩
  refine ⟨_, rfl, _, rfl, _, _, rfl, b, cs, hb, b1, b16, hc, ok, fun H1 g1 => ?_⟩
  obtain ⟨rc, xs, rfl, hrc, hall⟩ := id hc
  have xl := hall.len
  have cl := ok.len
  refine ⟨_, rfl, _, rfl, _, rfl, rc, _, rfl, .inr (g1.sqT hrc), xs.length, rfl, by omega, fun l hl0 => ?_⟩
  have gl := Grow.new (m := []) hl0 (.lst ((List.range xs.length).map fun i : Nat => V.int i))
  refine ⟨_, rfl, _, _, _, _, rfl, b, cs, d, m, (g1.trans gl).board hb, (g1.trans gl).calls72 hc, ⟨l, rfl, ?_⟩, hd.grow (g1.trans gl).wk, ok, hl, fun bb H2 g2 h2 => q _ _ (g1.trans (gl.trans g2)) h2⟩
  rw [← xl]
  exact SqL.of upd_same
theorem sc__law_done : FnScope ["_law_deed_here", "_law_value"] ["_law_deed_here", "_law_value"] (defScope (top 36)) := ⟨rfl, rfl, rfl, by decide +kernel, rfl, by decide +kernel, by decide +kernel⟩
set_option maxHeartbeats 0 in
theorem ok__law_done {n : Nat} {f : Addr} {fd : FuncData} (F : Fun K "_law_done" "_law_done" (top 36) f fd) (B : Blt mg)     :
    FnOk P w K mg base CX0 (n + 1) f fd ["_law_deed_here", "_law_value"] (sp_made K) := by
  refine F.ok sc__law_done sp2_len (fun cdv A outer s H vs Q E hr h => ?_)
  obtain ⟨x, y, rfl, d, v, hd, rfl, q⟩ := h
  refine ⟨_, (pss_cons (ps_set (i := 1) sc__law_done.nd rfl (Or.inl rfl) (pe_op op_add (pv 1) (pe_ix ix_tup (pv 0) pe_int (fun _ _ => rfl)))) (pss_cons (ps_if (PW.pt (pw_and (pt_cmp (pc_notN (pe_ix ix_tup (pv 0) pe_int (fun _ _ => rfl)))) (pw_and1 (pt_cmpR op_lt (pv 1) (pe_ix ix_tup (pv 0) pe_int (fun _ _ => rfl)) (nomark _))))) (pss_one (ps_set (i := 1) sc__law_done.nd rfl (Or.inl rfl) (pe_ix ix_tup (pv 0) pe_int (fun _ _ => rfl)))) pss_nil) (pss_cons (ps_if (PW.pt (pw_and (pt_cmp (pc_notN (pe_ix ix_tup (pv 0) pe_int (fun _ _ => rfl)))) (pw_and1 (pt_cmpR op_gt (pv 1) (pe_ix ix_tup (pv 0) pe_int (fun _ _ => rfl)) (nomark _))))) (pss_one (ps_set (i := 1) sc__law_done.nd rfl (Or.inl rfl) (pe_ix ix_tup (pv 0) pe_int (fun _ _ => rfl)))) pss_nil) (pss_one (ps_ret (pv 1)))))), ?_⟩
  obtain ⟨a, rfl, hs⟩ := hd
  obtain ⟨ad, lo, hi⟩ := d
  have i0 : atI (⟨ad, lo, hi⟩ : Deed).vs 0 = some (.int ad) := atI_nat (j := 0) rfl
  have i1 : atI (⟨ad, lo, hi⟩ : Deed).vs 1 = some (ov lo) := atI_nat (j := 1) rfl
  have i2 : atI (⟨ad, lo, hi⟩ : Deed).vs 2 = some (ov hi) := atI_nat (j := 2) rfl
  refine c_asg (fun w H' => w = .int (v + ad) ∧ H' = H) (fun Kk hk => ⟨_, rfl, _, rfl, a, _, _, _, rfl, rfl, hs, i0, _, _, rfl, rfl, hk _ _ ⟨rfl, rfl⟩⟩) ?_
  rintro _ H ⟨rfl, rfl⟩
  refine c_if (fun σ' H' => σ' = [some (.ref a), some (.int (clampLo lo (v + ad)))] ∧ H' = H) ?_ (fun hk => ?_)
  rotate_left
  · refine ⟨_, rfl, a, _, _, _, rfl, rfl, hs, i1, _, rfl, ?_⟩
    cases lo with
    | none => exact iteF (hk _ _ ⟨rfl, rfl⟩)
    | some l =>
      refine iteT ⟨_, rfl, _, rfl, a, _, _, _, rfl, rfl, hs, i1, _, _, rfl, rfl, _, rfl, ?_⟩
      by_cases h : v + ad < l
      · refine iteT' (decide_eq_true h) ⟨_, rfl, a, _, _, _, rfl, rfl, hs, i1, hk _ _ ⟨?_, rfl⟩⟩
        show [some (V.ref a), some (V.int l)] = _
        unfold clampLo; dsimp only; rw [if_pos h]
      · refine iteF' (decide_eq_false h) (hk _ _ ⟨?_, rfl⟩)
        unfold clampLo; dsimp only; rw [if_neg h]; rfl
  rintro _ H ⟨rfl, rfl⟩
  refine c_if (fun σ' H' => σ' = [some (.ref a), some (.int ((⟨ad, lo, hi⟩ : Deed).mk' v))] ∧ H' = H) ?_ (fun hk => ?_)
  rotate_left
  · refine ⟨_, rfl, a, _, _, _, rfl, rfl, hs, i2, _, rfl, ?_⟩
    cases hi with
    | none => exact iteF (hk _ _ ⟨rfl, rfl⟩)
    | some l =>
      refine iteT ⟨_, rfl, _, rfl, a, _, _, _, rfl, rfl, hs, i2, _, _, rfl, rfl, _, rfl, ?_⟩
      by_cases h : l < clampLo lo (v + ad)
      · refine iteT' (decide_eq_true h) ⟨_, rfl, a, _, _, _, rfl, rfl, hs, i2, hk _ _ ⟨?_, rfl⟩⟩
        show [some (V.ref a), some (V.int l)] = _
        unfold Deed.mk' clampHi; dsimp only; rw [if_pos h]
      · refine iteF' (decide_eq_false h) (hk _ _ ⟨?_, rfl⟩)
        unfold Deed.mk' clampHi; dsimp only; rw [if_neg h]
  rintro _ H ⟨rfl, rfl⟩
  exact ⟨_, rfl, q⟩
theorem sc__law_answers : FnScope ["_law_board", "_law_calls", "_law_row", "_law_values", "_law_k", "_law_box"] ["_law_board", "_law_calls", "_law_row"] (defScope (top 42)) := ⟨rfl, rfl, rfl, by decide +kernel, rfl, by decide +kernel, by decide +kernel⟩
set_option maxHeartbeats 0 in
theorem ok__law_answers {n : Nat} {f : Addr} {fd : FuncData} (F : Fun K "_law_answers" "_law_answers" (top 42) f fd) (B : Blt mg) (c__law_done : Callee P w K mg base n "_law_done" ["_law_deed_here", "_law_value"] (sp_made K))    :
    FnOk P w K mg base CX0 (n + 1) f fd ["_law_board", "_law_calls", "_law_row"] (sp_ans72 K) := by
  refine F.ok sc__law_answers sp3_len (fun cdv A outer s H vs Q E hr h => ?_)
  obtain ⟨x, y, z, rfl, b, cs, ns, hb, hc, hn, ok, hlt, q⟩ := h
  refine ⟨_, (pss_cons (ps_set (i := 3) sc__law_answers.nd rfl (Or.inl rfl) (pe_callTy call_list_of rfl B.list b_list (pa_cons (pv 0) pa_nil))) (pss_cons (ps_for PassesOwn.never rfl (pi_tup (pv 2)) (pg_name (i := 4) sc__law_answers.nd rfl (Or.inl rfl)) (pss_cons (ps_set (i := 5) sc__law_answers.nd rfl (Or.inl rfl) (pe_ix ix_tup (pe_ix ix_tup (pv 1) (pv 4) (fun _ _ => rfl)) pe_int (fun _ _ => rfl))) (pss_cons (ps_if (pt_cmpR op_ne (pe_ix ix_list (pv 3) (pv 5) (fun _ _ => rfl)) (pe_ix ix_tup (pe_ix ix_tup (pv 1) (pv 4) (fun _ _ => rfl)) pe_int (fun _ _ => rfl)) (nomark _)) (pss_one (ps_ret pe_bl)) pss_nil) (pss_one (ps_asg (pe_callC c__law_done hr rfl (pa_cons (pe_ix ix_tup (pe_ix ix_tup (pv 1) (pv 4) (fun _ _ => rfl)) pe_int (fun _ _ => rfl)) (pa_cons (pe_ix ix_list (pv 3) (pv 5) (fun _ _ => rfl)) pa_nil))) (pg_sub (pv 3) (pv 5) set_list)))))) (pss_one (ps_ret pe_bl)))), ?_⟩
  obtain ⟨rb, rfl, hrb⟩ := id hb
  obtain ⟨rc, xs, rfl, hrc, hall⟩ := id hc
  obtain ⟨r, rfl, hr0⟩ := id hn
  refine ⟨_, rfl, rb, _, rfl, .inr hrb, fun l hl0 => ?_⟩
  have g0 := Grow.new (m := [l]) hl0 (.lst (b.map V.int))
  refine ⟨_, rfl, r, rfl, ⟨_, g0.sqT hr0⟩, for_tup (xs := natsV ns) (fun i σ H' => ∃ (vs : List Int) (e4 e5 : Option V), σ = [some (.ref rb), some (.ref rc), some (.ref r), some (.ref l), e4, e5] ∧ H' l = some (.lst (vs.map V.int)) ∧ vs.length = b.length ∧ Grow [l] H H' ∧ an72 cs vs (ns.drop i) = an72 cs b ns) ⟨b, _, _, rfl, upd_same, rfl, g0, rfl⟩ (fun i σ H' _ ⟨_, _, _, _, _, _, g, _⟩ => g.sqT hr0) ?_ ?_⟩
  · rintro i x σ H1 hx ⟨vs, e4, e5, rfl, hl1, vl, g1, hk⟩
    obtain ⟨k, hki, rfl⟩ := natsV_at72 hx
    have hk' := hlt k (List.mem_of_getElem? hki)
    obtain ⟨z, hz, rz, rd, rfl, sz, sd⟩ := hall.getR (List.getElem?_eq_getElem hk')
    have o := ok _ (List.getElem_mem hk')
    have ec : cg cs k = cs[k] := cg_get (List.getElem?_eq_getElem hk')
    rw [drop_at72 hki, an_cons, ec] at hk
    have b0 := o.b0
    have b1 := o.b1
    have hbx : cs[k].box.toNat < vs.length := by omega
    have hat : atI (vs.map V.int) cs[k].box = some (.int (vs.getD cs[k].box.toNat 0)) := by
      have : cs[k].box = (cs[k].box.toNat : Int) := by omega
      rw [this]
      refine atI_nat ?_
      rw [List.getElem?_map, List.getElem?_eq_getElem hbx, Int.toNat_natCast, List.getD_eq_getElem?_getD, List.getElem?_eq_getElem hbx]
      rfl
    have c1 : atI (cs[k].vs rd) 1 = some (.int cs[k].box) := atI_nat (j := 1) rfl
    have c2 : atI (cs[k].vs rd) 2 = some (.ref rd) := atI_nat (j := 2) rfl
    have c5 : atI (cs[k].vs rd) 5 = some (.int cs[k].answer) := atI_nat (j := 5) rfl
    refine c_asg (fun v H' => v = .int cs[k].box ∧ H' = H1) (fun Kk hk => ⟨_, rfl, _, rfl, rc, _, _, .ref rz, rfl, rfl, g1.sqT hrc, atI_nat hz, rz, _, _, _, rfl, rfl, g1.sqT sz, c1, hk _ _ ⟨rfl, rfl⟩⟩) ?_
    rintro _ H1 ⟨rfl, rfl⟩
    refine ⟨_, rfl, _, rfl, l, _, _, _, rfl, rfl, SqL.of hl1, hat, _, rfl, _, rfl, rc, _, _, .ref rz, rfl, rfl, g1.sqT hrc, atI_nat hz, rz, _, _, _, rfl, rfl, g1.sqT sz, c5, rfl, _, rfl, ?_⟩
    by_cases ha : vs.getD cs[k].box.toNat 0 = cs[k].answer
    · rw [if_pos ha] at hk
      refine iteF' (by rw [decide_eq_true (congrArg V.int ha)]; rfl) (c_next ?_)
      refine ⟨_, rfl, _, rfl, rc, _, _, .ref rz, rfl, rfl, g1.sqT hrc, atI_nat hz, rz, _, _, _, rfl, rfl, g1.sqT sz, c2, _, rfl, _, rfl, l, _, _, _, rfl, rfl, SqL.of hl1, hat, _, _, rfl, cs[k].deed, cs[k].answer, ⟨rd, rfl, g1.sqT sd⟩, congrArg V.int ha, _, rfl, _, rfl, l, _, _, cs[k].box.toNat, rfl, rfl, hl1, ?_, ⟨vs.set cs[k].box.toNat (cs[k].deed.mk' cs[k].answer), _, _, rfl, ?_, by rw [List.length_set, vl], g1.trans (Grow.set hl1 (by simp) _), hk⟩⟩
      · exact ixN_nat b0 (by rw [List.length_map]; exact hbx)
      · rw [upd_same, List.map_set]
    · rw [if_neg ha] at hk
      refine iteT' (by rw [decide_eq_false fun z => ha (V.int.inj z)]; rfl) ?_
      have := q _ (Grow.shrink hl0 g1)
      rw [← hk] at this
      exact this
  · rintro σ H1 ⟨vs, e4, e5, rfl, hl1, vl, g1, hk⟩
    rw [natsV_len, List.drop_length] at hk
    have := q _ (Grow.shrink hl0 g1)
    rw [← hk] at this
    exact this
theorem sc__law_keeps : FnScope ["_law_calls", "_law_row", "_law_at_here", "_law_k"] ["_law_calls", "_law_row"] (defScope (top 41)) := ⟨rfl, rfl, rfl, by decide +kernel, rfl, by decide +kernel, by decide +kernel⟩
set_option maxHeartbeats 0 in
theorem ok__law_keeps {n : Nat} {f : Addr} {fd : FuncData} (F : Fun K "_law_keeps" "_law_keeps" (top 41) f fd) (B : Blt mg)  (g_enumerate : mg "enumerate" = none) (g_any : mg "any" = none)   :
    FnOk P w K mg base CX0 (n + 1) f fd ["_law_calls", "_law_row"] (sp_keep72 K) := by
  refine F.ok sc__law_keeps sp2_len (fun cdv A outer s H vs Q E hr h => ?_)
  obtain ⟨x, y, rfl, cs, ns, hc, hn, ⟨m, ok⟩, hlt, n40, q⟩ := h
  refine ⟨_, (pss_cons (ps_for PassesOwn.never rfl (pi_enumC true (K := K) rfl rfl g_enumerate (pa_cons (pv 1) pa_nil)) (pg_tup rfl (pgs_cons (pg_name (i := 2) sc__law_keeps.nd rfl (Or.inl rfl)) (pgs_cons (pg_name (i := 3) sc__law_keeps.nd rfl (Or.inr rfl)) pgs_nil))) (pss_one (ps_if (pt_val (pe_callB (call_anyB rfl) rfl g_any b_any (pa_cons (pe_compT (CSc.of (N' := ["_law_j", "_law_calls", "_law_k"]) (sub := [none, some 0, some 3]) (defScope (top 41)) ["_law_calls", "_law_row", "_law_at_here", "_law_k"] rfl rfl (by decide +kernel) rfl) rfl (pi_tup (pe_slice sl_tup (pv 1) (po_some (pe_op op_add (pv 2) pe_int)) po_none)) (fun _ _ _ _ _ _ => pg_name (i := 0) (show (["_law_j", "_law_calls", "_law_k"] : List Str).Nodup by decide +kernel) rfl (Or.inl rfl)) (fun _ _ _ _ _ _ => pifs_nil) (fun _ _ _ _ _ _ => (pe_cmpR op_lt (pe_ix (ix_tupK (K := K) rfl) (pe_ix (ix_tupK (K := K) rfl) (pv 1) (pv 0) (fun _ _ => rfl)) pe_int (fun _ _ => rfl)) (pe_ix (ix_tupK (K := K) rfl) (pe_ix (ix_tupK (K := K) rfl) (pv 1) (pv 2) (fun _ _ => rfl)) pe_int (fun _ _ => rfl)) (nomark _)))) pa_nil))) (pss_one (ps_ret pe_bl)) pss_nil))) (pss_one (ps_ret pe_bl))), ?_⟩
  obtain ⟨rc, xs, rfl, hrc, hall⟩ := id hc
  obtain ⟨r, rfl, hr0⟩ := id hn
  refine ⟨_, rfl, r, _, rfl, hr0, for_enumC (xs := natsV ns) (fun i σ H' => ∃ (e2 e3 : Option V), σ = [some (.ref rc), some (.ref r), e2, e3] ∧ Grow [] H H' ∧ kl72 cs (ns.drop i) = kl72 cs ns) ⟨_, _, rfl, Grow.refl _ _, rfl⟩ (fun i σ H' _ ⟨_, _, _, g, _⟩ => (g.sqT hr0 : SqT K H' r (natsV ns))) ?_ ?_⟩
  · rintro i x σ H1 T hx ⟨e2, e3, rfl, g1, hk⟩ hT
    obtain ⟨k, hki, rfl⟩ := natsV_at72 hx
    have hi := (List.getElem?_eq_some_iff.mp hki).1
    have hk' := hlt k (List.mem_of_getElem? hki)
    have gT := Grow.new (m := []) hT (.tup [.int i, .int k])
    obtain ⟨z, hz, rz, rd, rfl, sz, sd⟩ := hall.getR (List.getElem?_eq_getElem hk')
    have ec : cg cs k = cs[k] := cg_get (List.getElem?_eq_getElem hk')
    refine ⟨T, _, rfl, SqT.of upd_same, rfl, _, _, rfl, _, _, rfl, rfl, ?_⟩
    try dsimp only
    refine ⟨_, rfl, _, rfl, _, _, rfl, rfl, _, rfl, r, _, rfl, (g1.trans gT).sqT hr0, ?_, fun p hp => ?_⟩
    · rintro ⟨z, _⟩
      have e : HT.sIx (natsV ns).length 0 (some ((i : Int) + 1)) = i + 1 := by
        rw [show (i : Int) + 1 = ((i + 1 : Nat) : Int) from by omega]
        exact sIx72 (by rw [natsV_len]; omega)
      omega
    have eC : cutV (natsV ns) (some ((i : Int) + 1)) none = natsV (ns.drop (i + 1)) := by
      rw [show (i : Int) + 1 = ((i + 1 : Nat) : Int) from by omega, cut_suf]; unfold natsV; rw [List.map_drop]
    rw [eC]
    have gp := Grow.new (m := []) hp (.tup (natsV (ns.drop (i + 1))))
    have G := g1.trans (gT.trans gp)
    have hs2 : SqT K (upd (upd H1 T (.tup [.int i, .int k])) p (.tup (natsV (ns.drop (i + 1))))) p (natsV (ns.drop (i + 1))) := SqT.of upd_same
    generalize upd (upd H1 T (.tup [.int i, .int k])) p (.tup (natsV (ns.drop (i + 1)))) = H2 at gp G hs2 ⊢
    rw [drop_at72 hki] at hk
    have hk2 : (!((ns.drop (i + 1)).any fun j => decide ((cg cs j).ended < (cg cs k).begun)) && kl72 cs (ns.drop (i + 1))) = kl72 cs ns := hk
    have c3 : atI (cs[k].vs rd) 3 = some (.int cs[k].begun) := atI_nat (j := 3) rfl
    refine ⟨p, rfl, ⟨_, hs2⟩, comp_tupP72 (xs := natsV (ns.drop (i + 1))) (fun j ys H' => ys = (((ns.drop (i + 1)).take j).map fun q => decide ((cg cs q).ended < (cg cs k).begun)).map V.bl ∧ H' = H2) ⟨rfl, rfl⟩ (fun j ys H' z => by rw [z.2]; exact hs2) ?_ ?_⟩
    · rintro j x ys H' hx ⟨rfl, rfl⟩
      obtain ⟨q', hq, rfl⟩ := natsV_at72 hx
      have hq' := hlt q' (List.mem_of_mem_drop (List.mem_of_getElem? hq))
      obtain ⟨z, hzq, rq, rdq, rfl, sq, _⟩ := hall.getR (List.getElem?_eq_getElem hq')
      have eq' : cg cs q' = cs[q'] := cg_get (List.getElem?_eq_getElem hq')
      have c4 : atI (cs[q'].vs rdq) 4 = some (.int cs[q'].ended) := atI_nat (j := 4) rfl
      refine ⟨_, rfl, _, rfl, rc, _, _, .ref rq, rfl, rfl, G.sqT hrc, atI_nat hzq, rq, _, _, _, rfl, rfl, G.sqT sq, c4, _, rfl, _, rfl, rc, _, _, .ref rz, rfl, rfl, G.sqT hrc, atI_nat hz, rz, _, _, _, rfl, rfl, G.sqT sz, c3, _, _, rfl, rfl, lt72 (by rw [List.length_map, List.length_map, List.length_take, List.length_drop]; omega), ?_, rfl⟩
      rw [List.take_succ, hq, List.map_append, List.map_append]
      show _ ++ [V.bl (decide (cs[q'].ended < cs[k].begun))] = _ ++ [V.bl (decide ((cg cs q').ended < (cg cs k).begun))]
      rw [eq', ec]
    · rintro ys H' ⟨rfl, rfl⟩ l hl
      rw [natsV_len, List.take_length]
      have ea : (((ns.drop (i + 1)).map fun q => decide ((cg cs q).ended < (cg cs k).begun)).any id) = (ns.drop (i + 1)).any fun j => decide ((cg cs j).ended < (cg cs k).begun) := by rw [List.any_map]; rfl
      refine ⟨l, _, rfl, SqL.of upd_same, _, rfl, ?_⟩
      have Gl := G.trans (Grow.new hl (.lst (((ns.drop (i + 1)).map fun q => decide ((cg cs q).ended < (cg cs k).begun)).map V.bl)))
      cases hany : ((ns.drop (i + 1)).any fun j => decide ((cg cs j).ended < (cg cs k).begun)) with
      | true =>
        rw [hany] at hk2
        have := q _ Gl
        rw [← hk2] at this
        exact iteT' (by rw [ea]; exact hany) this
      | false =>
        rw [hany] at hk2
        exact iteF' (by rw [ea]; exact hany) ⟨_, _, rfl, Gl, hk2⟩
  · rintro σ H1 ⟨e2, e3, rfl, g1, hk⟩
    rw [natsV_len, List.drop_length] at hk
    have := q _ g1
    rw [← hk] at this
    exact this
theorem sc__law_is_order : FnScope ["_law_thing", "_law_many"] ["_law_thing", "_law_many"] (defScope (top 40)) := ⟨rfl, rfl, rfl, by decide +kernel, rfl, by decide +kernel, by decide +kernel⟩
set_option maxHeartbeats 0 in
theorem ok__law_is_order {n : Nat} {f : Addr} {fd : FuncData} (F : Fun K "_law_is_order" "_law_is_order" (top 40) f fd) (B : Blt mg)  (g_sorted : mg "sorted" = none) (g_any : mg "any" = none)   :
    FnOk P w K mg base CX0 (n + 1) f fd ["_law_thing", "_law_many"] (sp_lisord72 K) := by
  refine F.ok sc__law_is_order sp2_len (fun cdv A outer s H vs Q E hr h => ?_)
  obtain ⟨x, y, rfl, d, m, n, hd, hl, rfl, n40, q⟩ := h
  refine ⟨_, (pss_cons (ps_if (PW.pt (pw_or (pt_not (pt_val (pe_callB (call_isiO (K := K) rfl) rfl B.isinstance b_isinstance (pa_cons (pv 0) (pa_cons (pe_tyn rfl B.tuple b_tuple) pa_nil))))) (pw_or1 (pt_val (pe_callB (call_anyB rfl) rfl g_any b_any (pa_cons (pe_compT (CSc.of (N' := ["_law_k"]) (sub := [none]) (defScope (top 40)) ["_law_thing", "_law_many"] rfl rfl (by decide +kernel) rfl) rfl (pi_tup (pv 0)) (fun _ _ _ _ _ _ => pg_name (i := 0) (show (["_law_k"] : List Str).Nodup by decide +kernel) rfl (Or.inl rfl)) (fun _ _ _ _ _ _ => pifs_nil) (fun _ _ _ _ _ _ => (pe_or (pe_not (pe_callB (call_isiK (K := K) rfl) rfl B.isinstance b_isinstance (pa_cons (pv 0) (pa_cons (pe_tyn rfl B.int b_int) pa_nil)))) (pe_one (pe_callB (call_isiK (K := K) rfl) rfl B.isinstance b_isinstance (pa_cons (pv 0) (pa_cons (pe_tyn rfl B.bool b_bool) pa_nil))))))) pa_nil)))))) (pss_one (ps_ret pe_bl)) pss_nil) (pss_one (ps_ret (pe_cmpR (op_eqL hr) (pe_callB (call_sortedT (K := K) rfl) rfl g_sorted b_sorted (pa_cons (pv 0) pa_nil)) (pe_listRange rfl rfl B.list rfl B.range (pa_cons (pv 1) pa_nil)) (nomark _))))), ?_⟩
  refine c_test (fun b H' => Grow [] H H' ∧ (b = true → ¬ ∃ ns, IsOrd72 n d ns) ∧ (b = false → ∃ (r : Addr) (zs : List Int), x = .ref r ∧ d = .tuple (zs.map PyData.int) ∧ SqT K H r (zs.map V.int) ∧ zs.length < 64)) (fun Kk hk => ⟨_, rfl, _, d, m, _, _, rfl, hd, kit_tup72 d, _, rfl, ?_⟩) ?_
  · cases ht : isT72 d with
    | false => exact iteT (hk _ _ ⟨Grow.refl _ _, (fun _ => not_ord72 ht n), fun z => nomatch z⟩)
    | true =>
      obtain ⟨r, xs, ds, rfl, rfl, hs, os⟩ := od_tup72 hd ht
      obtain ⟨h64, hnd⟩ := hl ds rfl
      have xl := os.length
      refine iteF ⟨_, rfl, r, rfl, ⟨_, hs⟩, comp_tupP72 (xs := xs) (fun i ys H' => ys = ((ds.take i).map fun e => !isI72 e).map V.bl ∧ H' = H) ⟨rfl, rfl⟩ (fun i ys H' z => by rw [z.2]; exact hs) ?_ ?_⟩
      · rintro i x ys H' hx ⟨rfl, rfl⟩
        obtain ⟨e, he, oe⟩ := os.get hx
        obtain ⟨t, ty, k1, k2, hw⟩ := od_kn72 oe (hnd e (List.mem_of_getElem? he))
        have fin : ∀ v : Bool, v = !isI72 e → (((ds.take i).map fun e => !isI72 e).map V.bl).length < sizeLine ∧ ((ds.take i).map fun e => !isI72 e).map V.bl ++ [V.bl v] = ((ds.take (i + 1)).map fun e => !isI72 e).map V.bl ∧ H' = H' := fun v hv => by
          refine ⟨lt72 (by rw [List.length_map, List.length_map, List.length_take]; omega), ?_, rfl⟩
          rw [hv, List.take_succ, he, List.map_append, List.map_append]; rfl
        refine ⟨_, rfl, _, _, t, _, rfl, ty, k1, _, rfl, _, rfl, ?_⟩
        cases hq : (isI72 e || isB72 e) with
        | false =>
          have hq' := hq
          rw [Bool.or_eq_false_iff] at hq'
          exact iteT' rfl (fin true (by rw [hq'.1]; rfl))
        | true =>
          refine iteF' rfl ⟨_, rfl, _, _, t, _, rfl, ty, k2, fin _ ?_⟩
          cases e <;> first | rfl | cases hq
      · rintro ys H' ⟨rfl, rfl⟩ l hl'
        rw [xl, List.take_length]
        have ea : ((ds.map fun e => !isI72 e).any id) = !(ds.all isI72) := by
          rw [List.any_map, List.all_eq_not_any_not, Bool.not_not]; rfl
        refine ⟨l, ds.map fun e => !isI72 e, rfl, SqL.of upd_same, _, rfl, hk _ _ ⟨Grow.new hl' _, fun z => ?_, fun z => ?_⟩⟩
        · intro ho
          rw [ea, ord_all72 ho] at z
          cases z
        · rw [ea, Bool.not_eq_false'] at z
          obtain ⟨zs, rfl⟩ := ints72 z
          rw [ods_ints72 os] at hs
          exact ⟨r, zs, rfl, rfl, hs, by rw [List.length_map] at h64; exact h64⟩
  rintro b H1 ⟨g1, hb1, hb2⟩
  cases b with
  | true => exact iteT (q _ _ g1 ⟨(fun z => nomatch z), fun z => absurd z (hb1 rfl)⟩)
  | false =>
    obtain ⟨r, zs, rfl, rfl, hs, h64⟩ := hb2 rfl
    refine iteF (c_next ⟨_, rfl, r, zs, rfl, g1.sqT hs, h64, fun p ms hp hperm hpw => ?_⟩)
    have gp := Grow.new (m := []) hp (.lst (ms.map V.int))
    refine ⟨_, rfl, n, rfl, by omega, fun l hl' => ?_⟩
    have gl := Grow.new (m := []) hl' (.lst ((List.range n).map fun i : Nat => V.int i))
    refine ⟨p, l, _, _, rfl, rfl, SqL.of (gl.keep _ _ (by simp) upd_same), SqL.of upd_same, all_fl72 _, all_fn72 _, q _ _ (g1.trans (gp.trans gl)) ?_⟩
    rw [if_neg (by decide), show ((List.range n).map fun i : Nat => V.int i) = natsV (List.range n) from rfl, natsV_ints72, eqVs_ints, decide_eq_true_eq]
    exact ord_iff72 hperm hpw
theorem sc__law_fits : FnScope ["_law_board", "_law_calls", "_law_thing"] ["_law_board", "_law_calls", "_law_thing"] (defScope (top 43)) := ⟨rfl, rfl, rfl, by decide +kernel, rfl, by decide +kernel, by decide +kernel⟩
set_option maxHeartbeats 0 in
theorem ok__law_fits {n : Nat} {f : Addr} {fd : FuncData} (F : Fun K "_law_fits" "_law_fits" (top 43) f fd) (B : Blt mg) (c__law_answers : Callee P w K mg base n "_law_answers" ["_law_board", "_law_calls", "_law_row"] (sp_ans72 K)) (c__law_keeps : Callee P w K mg base n "_law_keeps" ["_law_calls", "_law_row"] (sp_keep72 K)) (c__law_is_order : Callee P w K mg base n "_law_is_order" ["_law_thing", "_law_many"] (sp_lisord72 K))    :
    FnOk P w K mg base CX0 (n + 1) f fd ["_law_board", "_law_calls", "_law_thing"] (sp_fits72 K) := by
  refine F.ok sc__law_fits sp3_len (fun cdv A outer s H vs Q E hr h => ?_)
  obtain ⟨x, y, z, rfl, b, cs, d, m, hb, b1, b16, hc, hd, ok, hl, q⟩ := h
  refine ⟨_, (pss_cons (ps_if (pt_not (pt_val (pe_callC c__law_is_order hr rfl (pa_cons (pv 2) (pa_cons (pe_callB call_len_seq rfl B.len b_len (pa_cons (pv 1) pa_nil)) pa_nil))))) (pss_one (ps_ret pe_bl)) pss_nil) (pss_one (ps_ret (pe_and (pe_callC c__law_keeps hr rfl (pa_cons (pv 1) (pa_cons (pv 2) pa_nil))) (pe_one (pe_callC c__law_answers hr rfl (pa_cons (pv 0) (pa_cons (pv 1) (pa_cons (pv 2) pa_nil))))))))), ?_⟩
  obtain ⟨rc, xs, rfl, hrc, hall⟩ := id hc
  have xl := hall.len
  refine c_test (fun bb H' => Grow [] H H' ∧ (bb = false ↔ ∃ ns, IsOrd72 cs.length d ns)) (fun Kk hk => ⟨_, rfl, _, rfl, rc, _, rfl, .inr hrc, _, _, rfl, d, m, cs.length, hd, hl, by rw [xl], ok.len, fun b1 H1 g1 h1 => ⟨_, rfl, hk _ _ ⟨g1, by rw [Bool.not_eq_false']; exact h1⟩⟩⟩) ?_
  rintro bb H1 ⟨g1, h1⟩
  cases bb with
  | true => exact iteT (q _ _ g1 ⟨(fun z => nomatch z), fun ⟨ns, o, _⟩ => absurd (h1.mpr ⟨ns, o⟩) (by decide)⟩)
  | false =>
    obtain ⟨ns, o⟩ := h1.mp rfl
    have hN : NumsT K H z ns := od_nums o.1 hd
    have hlt : ∀ k ∈ ns, k < cs.length := fun k hk => List.mem_range.mp (o.2.mem_iff.mp hk)
    have nl : ns.length = cs.length := by rw [o.2.length_eq, List.length_range]
    have iff : ∀ bb : Bool, bb = (kl72 cs ns && an72 cs b ns) → (bb = true ↔ Fit72 b cs d) := fun bb e => by
      rw [e, Bool.and_eq_true]
      exact ⟨fun z => ⟨ns, o, z.1, z.2⟩, fun ⟨ms, o', z1, z2⟩ => by rw [o.uniq o']; exact ⟨z1, z2⟩⟩
    refine iteF (c_next ⟨_, rfl, _, rfl, _, _, rfl, cs, ns, g1.calls72 hc, hN.grow g1, ⟨_, ok.ok⟩, hlt, by rw [nl]; exact ok.len, fun H2 g2 => ⟨_, rfl, ?_⟩⟩)
    cases hk : kl72 cs ns with
    | false => exact iteF (q _ _ (g1.trans g2) (iff _ (by rw [hk]; rfl)))
    | true => exact iteT ⟨_, rfl, _, rfl, _, rfl, _, _, _, rfl, b, cs, ns, (g1.trans g2).board hb, (g1.trans g2).calls72 hc, hN.grow (g1.trans g2), ok.ok, hlt, fun H3 g3 => q _ _ (g1.trans (g2.trans g3)) (iff _ (by rw [hk]; rfl))⟩
theorem sc__law_told : FnScope ["_law_board", "_law_calls", "_law_some", "_law_shown", "_law_thing", "_law_due", "_law_told_here"] ["_law_board", "_law_calls", "_law_some"] (defScope (top 48)) := ⟨rfl, rfl, rfl, by decide +kernel, rfl, by decide +kernel, by decide +kernel⟩
set_option maxHeartbeats 0 in
theorem ok__law_told {n : Nat} {f : Addr} {fd : FuncData} (F : Fun K "_law_told" "_law_told" (top 48) f fd) (B : Blt mg) (c__law_is_truth : Callee P w K mg base n "_law_is_truth" ["_law_found", "_law_due"] (sp_truth72 K)) (c_fits : Callee P w K mg base n "fits" ["board", "calls", "order"] (sp_fits72 K)) (c__law_fits : Callee P w K mg base n "_law_fits" ["_law_board", "_law_calls", "_law_thing"] (sp_fits72 K))    :
    FnOk P w K mg base CX0 (n + 1) f fd ["_law_board", "_law_calls", "_law_some"] (sp_told72 K) := by
  refine F.ok sc__law_told sp3_len (fun cdv A outer s H vs Q E hr h => ?_)
  obtain ⟨x, y, z, rfl, b, cs, l, xs, ds, m, hb, b1, b16, bb, hc, ok, bd, rfl, hl, lm, ls, ho, hds, d30, q⟩ := h
  refine ⟨_, (pss_cons (ps_set (i := 3) sc__law_told.nd rfl (Or.inl rfl) (pe_callB (call_reprO (K := K) rfl hr) rfl B.repr b_repr (pa_cons (pe_tup (pa_cons (pv 0) (pa_cons (pv 1) (pa_cons (pv 2) pa_nil)))) pa_nil))) (pss_cons (ps_for PassesOwn.never rfl (pi_list (pv 2)) (pg_name (i := 4) sc__law_told.nd rfl (Or.inl rfl)) (pss_cons (ps_set (i := 5) sc__law_told.nd rfl (Or.inr rfl) (pe_callC c__law_fits hr rfl (pa_cons (pv 0) (pa_cons (pv 1) (pa_cons (pv 4) pa_nil))))) (pss_cons (ps_set (i := 6) sc__law_told.nd rfl (Or.inl rfl) (pe_lst (pa_cons (pe_callC c_fits hr rfl (pa_cons (pv 0) (pa_cons (pv 1) (pa_cons (pv 4) pa_nil)))) (pa_cons (pe_callC c_fits hr rfl (pa_cons (pv 0) (pa_cons (pv 1) (pa_cons (pv 4) pa_nil)))) pa_nil)))) (pss_one (ps_if (pt_not (pt_val (pe_callB (call_allB rfl) rfl B.all b_all (pa_cons (pe_compT (CSc.of (N' := ["_law_found", "_law_due"]) (sub := [none, some 5]) (defScope (top 48)) ["_law_board", "_law_calls", "_law_some", "_law_shown", "_law_thing", "_law_due", "_law_told_here"] rfl rfl (by decide +kernel) rfl) rfl (pi_list (pv 6)) (fun _ _ _ _ _ _ => pg_name (i := 0) (show (["_law_found", "_law_due"] : List Str).Nodup by decide +kernel) rfl (Or.inl rfl)) (fun _ _ _ _ _ _ => pifs_nil) (fun _ _ _ _ _ _ => (pe_callC c__law_is_truth hr rfl (pa_cons (pv 0) (pa_cons (pv 1) pa_nil))))) pa_nil)))) (pss_one (ps_ret pe_bl)) pss_nil))))) (pss_one (ps_ret (pe_cmpR op_eq (pe_callB (call_reprO (K := K) rfl hr) rfl B.repr b_repr (pa_cons (pe_tup (pa_cons (pv 0) (pa_cons (pv 1) (pa_cons (pv 2) pa_nil)))) pa_nil)) (pv 3) (nomark _)))))), ?_⟩
  obtain ⟨s1, s2, s3⟩ := shows72 b16 bb ok.len bd d30 fun d h => (hds d h).2
  have OD : ∀ (H' : Hp) (t : Addr), Grow [] H H' → SqT K H' t [x, y, .ref l] → Od K m H' (.ref t) (whole72 b cs ds) := fun H' t g ht => .tup ht (.cons (od_board72 (g.board hb)) (.cons (od_calls72 (g.calls72 hc)) (.cons (.lst (g.keep _ _ (by simp) hl) lm ls (ho.grow g.wk)) .nil)))
  have xl := ho.length
  refine c_asg (fun v H' => v = .str (whole72 b cs ds).shown ∧ Grow [] H H') (fun Kk hk => ⟨_, rfl, _, rfl, _, rfl, szl rfl, fun t ht => ⟨_, whole72 b cs ds, m, rfl, OD _ t (Grow.new ht _) (SqT.of upd_same), s1, s2, s3, hk _ _ ⟨rfl, Grow.new ht _⟩⟩⟩) ?_
  rintro _ H1 ⟨rfl, g1⟩
  refine ⟨_, rfl, l, rfl, ⟨_, SqL.of (g1.keep _ _ (by simp) hl)⟩, for_list (xs := xs) (fun i σ H' => ∃ (e4 e5 e6 : Option V), σ = [some x, some y, some (.ref l), some (.str (whole72 b cs ds).shown), e4, e5, e6] ∧ Grow [] H H') ⟨_, _, _, rfl, g1⟩ (fun i σ H' _ ⟨_, _, _, _, g⟩ => SqL.of (g.keep _ _ (by simp) hl)) ?_ ?_⟩
  · rintro i v σ H2 hv ⟨e4, e5, e6, rfl, g2⟩
    obtain ⟨d, hd, od⟩ := ho.get hv
    obtain ⟨fl, _⟩ := hds d (List.mem_of_getElem? hd)
    have od2 := od.grow (g2.wk (m := m))
    refine c_asg (fun v H' => ∃ t : Bool, v = .bl t ∧ (t = true ↔ Fit72 b cs d) ∧ Grow [] H2 H') (fun Kk hk => ⟨_, rfl, _, rfl, _, rfl, _, _, _, rfl, b, cs, d, m, g2.board hb, b1, b16, g2.calls72 hc, od2, ok, fl, fun t H' g ht => hk _ _ ⟨t, rfl, ht, g⟩⟩) ?_
    rintro _ H3 ⟨t, rfl, ht, g3⟩
    have G3 := g2.trans g3
    refine c_asg (fun v H' => ∃ l6, v = .ref l6 ∧ H' l6 = some (.lst [.bl t, .bl t]) ∧ Grow [] H3 H') (fun Kk hk => ⟨_, rfl, _, rfl, _, rfl, _, _, _, rfl, b, cs, d, m, G3.board hb, b1, b16, G3.calls72 hc, od.grow (G3.wk (m := m)), ok, fl, fun t1 H4 g4 ht1 => ⟨_, rfl, _, rfl, _, rfl, _, _, _, rfl, b, cs, d, m, (G3.trans g4).board hb, b1, b16, (G3.trans g4).calls72 hc, od.grow ((G3.trans g4).wk (m := m)), ok, fl, fun t2 H5 g5 ht2 => ⟨szl rfl, fun l6 hl6 => ?_⟩⟩⟩) ?_
    · have e1 : t1 = t := by rw [Bool.eq_iff_iff, ht1, ht]
      have e2 : t2 = t := by rw [Bool.eq_iff_iff, ht2, ht]
      subst e1 e2
      exact hk _ _ ⟨l6, rfl, upd_same, g4.trans (g5.trans (Grow.new hl6 _))⟩
    rintro _ H4 ⟨l6, rfl, h6, g4⟩
    refine ⟨_, rfl, l6, rfl, ⟨_, SqL.of h6⟩, comp_listP (xs := [V.bl t, V.bl t]) (fun i ys H' => ys = (List.replicate i true).map V.bl ∧ H' = H4) ⟨rfl, rfl⟩ (fun i ys H' z => by rw [z.2]; exact SqL.of h6) ?_ ?_⟩
    · rintro j w ys H' hw ⟨rfl, rfl⟩
      have hj := (List.getElem?_eq_some_iff.mp hw).1
      have hj2 : j < 2 := hj
      have ew : w = .bl t := by
        have : j = 0 ∨ j = 1 := by omega
        rcases this with rfl | rfl <;> exact (Option.some.inj hw).symm
      subst ew
      refine ⟨_, rfl, _, rfl, _, _, rfl, t, t, rfl, rfl, lt72 (by rw [List.length_map, List.length_replicate]; omega), ?_, rfl⟩
      rw [List.replicate_succ', List.map_append, show (t == t) = true from by cases t <;> rfl]; rfl
    · rintro ys H' ⟨rfl, rfl⟩ l7 hl7
      exact ⟨l7, List.replicate 2 true, rfl, SqL.of upd_same, _, rfl, iteF ⟨_, _, _, rfl, G3.trans (g4.trans (Grow.new hl7 _))⟩⟩
  · rintro σ H2 ⟨e4, e5, e6, rfl, g2⟩
    refine ⟨_, rfl, _, rfl, _, rfl, szl rfl, fun t ht => ⟨_, whole72 b cs ds, m, rfl, OD _ t (g2.trans (Grow.new ht _)) (SqT.of upd_same), s1, s2, s3, _, rfl, rfl, ?_⟩⟩
    rw [decide_eq_true rfl]
    exact q _ (g2.trans (Grow.new ht _))
theorem sc__law_shuffled : FnScope ["_law_pot_here", "_law_row", "_law_left"] ["_law_pot_here", "_law_row"] (defScope (top 33)) := ⟨rfl, rfl, rfl, by decide +kernel, rfl, by decide +kernel, by decide +kernel⟩
set_option maxHeartbeats 0 in
theorem ok__law_shuffled {n : Nat} {f : Addr} {fd : FuncData} (F : Fun K "_law_shuffled" "_law_shuffled" (top 33) f fd) (B : Blt mg) (c__law_take : Callee P w K mg base n "_law_take" ["_law_pot_here", "_law_many"] (sp_take K))    :
    FnOk P w K mg base CX0 (n + 1) f fd ["_law_pot_here", "_law_row"] (sp_shuf72 K) := by
  refine F.ok sc__law_shuffled sp2_len (fun cdv A outer s H vs Q E hr h => ?_)
  obtain ⟨x, y, rfl, p, ns, rfl, pp, ⟨r, rfl, hn⟩, hl, q⟩ := h
  refine ⟨_, (pss_cons (ps_set (i := 2) sc__law_shuffled.nd rfl (Or.inr rfl) (pe_callTy call_list_of rfl B.list b_list (pa_cons (pv 1) pa_nil))) (pss_one (ps_ret (pe_compT (CSc.of (N' := ["_law_k", "_law_left", "_law_pot_here"]) (sub := [none, some 2, some 0]) (defScope (top 33)) ["_law_pot_here", "_law_row", "_law_left"] rfl rfl (by decide +kernel) rfl) rfl (pi_range1 rfl B.range (pa_cons (pe_callB call_len_seq rfl B.len b_len (pa_cons (pv 1) pa_nil)) pa_nil)) (fun _ _ _ _ _ _ => pg_name (i := 0) (show (["_law_k", "_law_left", "_law_pot_here"] : List Str).Nodup by decide +kernel) rfl (Or.inl rfl)) (fun _ _ _ _ _ _ => pifs_nil) (fun _ _ _ _ _ _ => (pe_bmK (K := K) rfl PySem.F.plainAttrs_list PySem.F.slot_list_pop PySem.F.type_list_pop mt_popAt (pv 1) (pa_cons (pe_callC c__law_take hr rfl (pa_cons (pv 2) (pa_cons (pe_callB (call_lenK (K := K) rfl) rfl B.len b_len (pa_cons (pv 1) pa_nil)) pa_nil))) pa_nil))))))), ?_⟩
  refine ⟨_, rfl, r, _, rfl, hn, fun l hl0 => ?_⟩
  have gl := Grow.new (m := [p, l]) hl0 (.lst (natsV ns))
  have pl : p ≠ l := fun z => pot_ne72 pp hl0 (by rw [z]; simp)
  have pp0 := pp.grow (Grow.new hl0 (.lst (natsV ns)))
  have hn0 : SqL K (upd H l (.lst (natsV ns))) r (natsV ns) ∨ SqT K (upd H l (.lst (natsV ns))) r (natsV ns) := hn.imp (fun z => (Grow.new (m := []) hl0 _).sqL z) fun z => (Grow.new (m := []) hl0 _).sqT z
  have h0 : upd H l (.lst (natsV ns)) l = some (.lst (natsV ns)) := upd_same
  generalize upd H l (.lst (natsV ns)) = H0 at gl pp0 hn0 h0 ⊢
  refine ⟨_, rfl, r, _, rfl, hn0, _, rfl, by omega, by rw [natsV_len]; omega, comp_rng (fun i ys H' => ∃ ms left : List Nat, ys = natsV ms ∧ ms.length = i ∧ (ms ++ left).Perm ns ∧ H' l = some (.lst (natsV left)) ∧ Grow [p, l] H0 H' ∧ Pot H' p) ⟨[], ns, rfl, rfl, List.Perm.refl _, h0, Grow.refl _ _, pp0⟩ ?_ ?_⟩
  · rintro i ys H1 hi ⟨ms, left, rfl, ml, hp, hl1, g1, pp1⟩
    have hil : i < ns.length := by
      have := hi
      rw [natsV_len] at this
      omega
    have hlen := hp.length_eq
    rw [List.length_append] at hlen
    have ll : 0 < left.length := by omega
    refine ⟨_, rfl, .inl ⟨rfl, _, SqL.of hl1⟩, _, rfl, _, rfl, l, _, rfl, .inl (SqL.of hl1), _, _, rfl, p, _, rfl, rfl, pp1, by rw [natsV_len]; omega, Int.lt_of_le_of_lt (b := 100) (by rw [natsV_len]; omega) (by decide), fun j' H2 j0 j1 g2 pp2 => ?_⟩
    obtain ⟨j, rfl⟩ := Int.eq_ofNat_of_zero_le j0
    rw [natsV_len] at j1
    have hj : j < left.length := by omega
    have hl2 := g2.keep _ _ (by simpa using pl.symm) hl1
    refine ⟨l, natsV left, _, j, V.int (left[j] : Nat), rfl, rfl, hl2, by omega, Int.lt_of_le_of_lt (b := 100) (by omega) (by decide), ?_, ?_, lt72 (by rw [natsV_len]; omega), ms ++ [left[j]], left.eraseIdx j, by rw [natsV_app]; rfl, by rw [List.length_append, List.length_singleton, ml], ?_, ?_, g1.trans ((g2.mono (by simp)).trans (Grow.set hl2 (by simp) _)), ?_⟩
    · exact PySem.StrLaws.seqIndex_nonneg (by omega) (by rw [natsV_len]; omega)
    · unfold natsV; rw [List.getElem?_map, List.getElem?_eq_getElem hj]; rfl
    · refine List.Perm.trans ?_ hp
      rw [List.append_assoc]
      exact List.Perm.append_left _ (erase_perm72 hj)
    · rw [upd_same]
      rw [erase_map72]
    · obtain ⟨u, w, e, z⟩ := pp2
      exact ⟨u, w, by rw [upd_ne pl]; exact e, z⟩
  · rintro ys H1 ⟨ms, left, rfl, ml, hp, hl1, g1, pp1⟩ l' hl'
    have hlen := hp.length_eq
    rw [List.length_append, ml, natsV_len] at hlen
    have e0 : left = [] := List.length_eq_zero_iff.mp (by omega)
    subst e0
    rw [List.append_nil] at hp
    have n1 : l' ∉ [p, l] := fun z => by
      rcases List.mem_cons.mp z with z | z
      · exact pot_ne72 pp1 hl' (by rw [z]; simp)
      · rw [List.mem_singleton.mp z, hl1] at hl'; cases hl'
    have G := gl.trans (g1.trans (Grow.new hl' (.lst (natsV ms))))
    exact q l' ms _ hp (Grow.shrink2 G hl0) (pp1.grow (Grow.new hl' _)) ((gl.trans g1).free n1 hl') (fun z => n1 (by rw [z]; simp)) upd_same
theorem sc__law_orders : FnScope ["_law_pot_here", "_law_order", "_law_many", "_law_i", "_law_j", "_law_row", "_law_other", "_law_some", "_law_ahead", "_law_behind"] ["_law_pot_here", "_law_order"] (defScope (top 45)) := ⟨rfl, rfl, rfl, by decide +kernel, rfl, by decide +kernel, by decide +kernel⟩
set_option maxHeartbeats 0 in
theorem ok__law_orders {n : Nat} {f : Addr} {fd : FuncData} (F : Fun K "_law_orders" "_law_orders" (top 45) f fd) (B : Blt mg) (c__law_shuffled : Callee P w K mg base n "_law_shuffled" ["_law_pot_here", "_law_row"] (sp_shuf72 K)) (c__law_take : Callee P w K mg base n "_law_take" ["_law_pot_here", "_law_many"] (sp_take K)) (g_sorted : mg "sorted" = none)   :
    FnOk P w K mg base CX0 (n + 1) f fd ["_law_pot_here", "_law_order"] (sp_orders72 K) := by
  refine F.ok sc__law_orders sp2_len (fun cdv A outer s H vs Q E hr h => ?_)
  obtain ⟨x, y, rfl, p, ro, ns, rfl, rfl, pp, hro, hl, hlt, q⟩ := h
  refine ⟨_, (@pss_cons _ _ _ _ _ (@ps_set _ _ 2 _ _ _ _ sc__law_orders.nd rfl (Or.inl rfl) (@pe_callB _ _ _ _ _ _ _ _ _ call_len_seq rfl B.len b_len (@pa_cons _ _ _ _ _ (pv 1) pa_nil (by first | rfl | decide | exact Or.inl rfl | exact Or.inr rfl | exact Or.inr (Or.inl rfl) | exact Or.inr (Or.inr rfl) | exact fun _ => rfl | exact Nat.le_of_ble_eq_true rfl)) (by first | rfl | decide | exact Or.inl rfl | exact Or.inr rfl | exact Or.inr (Or.inl rfl) | exact Or.inr (Or.inr rfl) | exact fun _ => rfl | exact Nat.le_of_ble_eq_true rfl) (by first | rfl | decide | exact Or.inl rfl | exact Or.inr rfl | exact Or.inr (Or.inl rfl) | exact Or.inr (Or.inr rfl) | exact fun _ => rfl | exact Nat.le_of_ble_eq_true rfl) (by first | rfl | decide | exact Or.inl rfl | exact Or.inr rfl | exact Or.inr (Or.inl rfl) | exact Or.inr (Or.inr rfl) | exact fun _ => rfl | exact Nat.le_of_ble_eq_true rfl) (by first | rfl | decide | exact Or.inl rfl | exact Or.inr rfl | exact Or.inr (Or.inl rfl) | exact Or.inr (Or.inr rfl) | exact fun _ => rfl | exact Nat.le_of_ble_eq_true rfl)) (by first | rfl | decide | exact Or.inl rfl | exact Or.inr rfl | exact Or.inr (Or.inl rfl) | exact Or.inr (Or.inr rfl) | exact fun _ => rfl | exact Nat.le_of_ble_eq_true rfl) (by first | rfl | decide | exact Or.inl rfl | exact Or.inr rfl | exact Or.inr (Or.inl rfl) | exact Or.inr (Or.inr rfl) | exact fun _ => rfl | exact Nat.le_of_ble_eq_true rfl)) (@pss_cons _ _ _ _ _ (@ps_asg _ _ _ _ _ _ (@pe_tup _ _ _ _ _ (@pa_cons _ _ _ _ _ (@pe_callC _ _ _ _ _ _ _ _ _ _ c__law_take hr rfl (@pa_cons _ _ _ _ _ (pv 0) (@pa_cons _ _ _ _ _ (@pe_callB _ _ _ _ _ _ _ _ _ (call_max2 rfl) rfl B.max b_max (@pa_cons _ _ _ _ _ pe_int (@pa_cons _ _ _ _ _ (pv 2) pa_nil (by first | rfl | decide | exact Or.inl rfl | exact Or.inr rfl | exact Or.inr (Or.inl rfl) | exact Or.inr (Or.inr rfl) | exact fun _ => rfl | exact Nat.le_of_ble_eq_true rfl)) (by first | rfl | decide | exact Or.inl rfl | exact Or.inr rfl | exact Or.inr (Or.inl rfl) | exact Or.inr (Or.inr rfl) | exact fun _ => rfl | exact Nat.le_of_ble_eq_true rfl)) (by first | rfl | decide | exact Or.inl rfl | exact Or.inr rfl | exact Or.inr (Or.inl rfl) | exact Or.inr (Or.inr rfl) | exact fun _ => rfl | exact Nat.le_of_ble_eq_true rfl) (by first | rfl | decide | exact Or.inl rfl | exact Or.inr rfl | exact Or.inr (Or.inl rfl) | exact Or.inr (Or.inr rfl) | exact fun _ => rfl | exact Nat.le_of_ble_eq_true rfl) (by first | rfl | decide | exact Or.inl rfl | exact Or.inr rfl | exact Or.inr (Or.inl rfl) | exact Or.inr (Or.inr rfl) | exact fun _ => rfl | exact Nat.le_of_ble_eq_true rfl) (by first | rfl | decide | exact Or.inl rfl | exact Or.inr rfl | exact Or.inr (Or.inl rfl) | exact Or.inr (Or.inr rfl) | exact fun _ => rfl | exact Nat.le_of_ble_eq_true rfl)) pa_nil (by first | rfl | decide | exact Or.inl rfl | exact Or.inr rfl | exact Or.inr (Or.inl rfl) | exact Or.inr (Or.inr rfl) | exact fun _ => rfl | exact Nat.le_of_ble_eq_true rfl)) (by first | rfl | decide | exact Or.inl rfl | exact Or.inr rfl | exact Or.inr (Or.inl rfl) | exact Or.inr (Or.inr rfl) | exact fun _ => rfl | exact Nat.le_of_ble_eq_true rfl)) (by first | rfl | decide | exact Or.inl rfl | exact Or.inr rfl | exact Or.inr (Or.inl rfl) | exact Or.inr (Or.inr rfl) | exact fun _ => rfl | exact Nat.le_of_ble_eq_true rfl) (by first | rfl | decide | exact Or.inl rfl | exact Or.inr rfl | exact Or.inr (Or.inl rfl) | exact Or.inr (Or.inr rfl) | exact fun _ => rfl | exact Nat.le_of_ble_eq_true rfl) (by first | rfl | decide | exact Or.inl rfl | exact Or.inr rfl | exact Or.inr (Or.inl rfl) | exact Or.inr (Or.inr rfl) | exact fun _ => rfl | exact Nat.le_of_ble_eq_true rfl)) (@pa_cons _ _ _ _ _ (@pe_callC _ _ _ _ _ _ _ _ _ _ c__law_take hr rfl (@pa_cons _ _ _ _ _ (pv 0) (@pa_cons _ _ _ _ _ (@pe_callB _ _ _ _ _ _ _ _ _ (call_max2 rfl) rfl B.max b_max (@pa_cons _ _ _ _ _ pe_int (@pa_cons _ _ _ _ _ (pv 2) pa_nil (by first | rfl | decide | exact Or.inl rfl | exact Or.inr rfl | exact Or.inr (Or.inl rfl) | exact Or.inr (Or.inr rfl) | exact fun _ => rfl | exact Nat.le_of_ble_eq_true rfl)) (by first | rfl | decide | exact Or.inl rfl | exact Or.inr rfl | exact Or.inr (Or.inl rfl) | exact Or.inr (Or.inr rfl) | exact fun _ => rfl | exact Nat.le_of_ble_eq_true rfl)) (by first | rfl | decide | exact Or.inl rfl | exact Or.inr rfl | exact Or.inr (Or.inl rfl) | exact Or.inr (Or.inr rfl) | exact fun _ => rfl | exact Nat.le_of_ble_eq_true rfl) (by first | rfl | decide | exact Or.inl rfl | exact Or.inr rfl | exact Or.inr (Or.inl rfl) | exact Or.inr (Or.inr rfl) | exact fun _ => rfl | exact Nat.le_of_ble_eq_true rfl) (by first | rfl | decide | exact Or.inl rfl | exact Or.inr rfl | exact Or.inr (Or.inl rfl) | exact Or.inr (Or.inr rfl) | exact fun _ => rfl | exact Nat.le_of_ble_eq_true rfl) (by first | rfl | decide | exact Or.inl rfl | exact Or.inr rfl | exact Or.inr (Or.inl rfl) | exact Or.inr (Or.inr rfl) | exact fun _ => rfl | exact Nat.le_of_ble_eq_true rfl)) pa_nil (by first | rfl | decide | exact Or.inl rfl | exact Or.inr rfl | exact Or.inr (Or.inl rfl) | exact Or.inr (Or.inr rfl) | exact fun _ => rfl | exact Nat.le_of_ble_eq_true rfl)) (by first | rfl | decide | exact Or.inl rfl | exact Or.inr rfl | exact Or.inr (Or.inl rfl) | exact Or.inr (Or.inr rfl) | exact fun _ => rfl | exact Nat.le_of_ble_eq_true rfl)) (by first | rfl | decide | exact Or.inl rfl | exact Or.inr rfl | exact Or.inr (Or.inl rfl) | exact Or.inr (Or.inr rfl) | exact fun _ => rfl | exact Nat.le_of_ble_eq_true rfl) (by first | rfl | decide | exact Or.inl rfl | exact Or.inr rfl | exact Or.inr (Or.inl rfl) | exact Or.inr (Or.inr rfl) | exact fun _ => rfl | exact Nat.le_of_ble_eq_true rfl) (by first | rfl | decide | exact Or.inl rfl | exact Or.inr rfl | exact Or.inr (Or.inl rfl) | exact Or.inr (Or.inr rfl) | exact fun _ => rfl | exact Nat.le_of_ble_eq_true rfl)) pa_nil (by first | rfl | decide | exact Or.inl rfl | exact Or.inr rfl | exact Or.inr (Or.inl rfl) | exact Or.inr (Or.inr rfl) | exact fun _ => rfl | exact Nat.le_of_ble_eq_true rfl)) (by first | rfl | decide | exact Or.inl rfl | exact Or.inr rfl | exact Or.inr (Or.inl rfl) | exact Or.inr (Or.inr rfl) | exact fun _ => rfl | exact Nat.le_of_ble_eq_true rfl))) (pg_tup rfl (pgs_cons (pg_name (i := 3) sc__law_orders.nd rfl (Or.inr rfl)) (pgs_cons (pg_name (i := 4) sc__law_orders.nd rfl (Or.inl rfl)) pgs_nil))) (by first | rfl | decide | exact Or.inl rfl | exact Or.inr rfl | exact Or.inr (Or.inl rfl) | exact Or.inr (Or.inr rfl) | exact fun _ => rfl | exact Nat.le_of_ble_eq_true rfl) (by first | rfl | decide | exact Or.inl rfl | exact Or.inr rfl | exact Or.inr (Or.inl rfl) | exact Or.inr (Or.inr rfl) | exact fun _ => rfl | exact Nat.le_of_ble_eq_true rfl) (by first | rfl | decide | exact Or.inl rfl | exact Or.inr rfl | exact Or.inr (Or.inl rfl) | exact Or.inr (Or.inr rfl) | exact fun _ => rfl | exact Nat.le_of_ble_eq_true rfl)) (@pss_cons _ _ _ _ _ (@ps_set _ _ 5 _ _ _ _ sc__law_orders.nd rfl (Or.inl rfl) (@pe_callTy _ _ _ _ _ _ _ _ _ (call_listB (K := K) rfl) rfl B.list b_list (@pa_cons _ _ _ _ _ (pv 1) pa_nil (by first | rfl | decide | exact Or.inl rfl | exact Or.inr rfl | exact Or.inr (Or.inl rfl) | exact Or.inr (Or.inr rfl) | exact fun _ => rfl | exact Nat.le_of_ble_eq_true rfl)) (by first | rfl | decide | exact Or.inl rfl | exact Or.inr rfl | exact Or.inr (Or.inl rfl) | exact Or.inr (Or.inr rfl) | exact fun _ => rfl | exact Nat.le_of_ble_eq_true rfl) (by first | rfl | decide | exact Or.inl rfl | exact Or.inr rfl | exact Or.inr (Or.inl rfl) | exact Or.inr (Or.inr rfl) | exact fun _ => rfl | exact Nat.le_of_ble_eq_true rfl) (by first | rfl | decide | exact Or.inl rfl | exact Or.inr rfl | exact Or.inr (Or.inl rfl) | exact Or.inr (Or.inr rfl) | exact fun _ => rfl | exact Nat.le_of_ble_eq_true rfl) (by first | rfl | decide | exact Or.inl rfl | exact Or.inr rfl | exact Or.inr (Or.inl rfl) | exact Or.inr (Or.inr rfl) | exact fun _ => rfl | exact Nat.le_of_ble_eq_true rfl)) (by first | rfl | decide | exact Or.inl rfl | exact Or.inr rfl | exact Or.inr (Or.inl rfl) | exact Or.inr (Or.inr rfl) | exact fun _ => rfl | exact Nat.le_of_ble_eq_true rfl) (by first | rfl | decide | exact Or.inl rfl | exact Or.inr rfl | exact Or.inr (Or.inl rfl) | exact Or.inr (Or.inr rfl) | exact fun _ => rfl | exact Nat.le_of_ble_eq_true rfl)) (@pss_cons _ _ _ _ _ (@ps_if _ _ _ _ _ _ _ _ (@pt_cmpR _ _ _ _ _ _ _ _ op_gt (pv 2) pe_int (nomark _)) (@pss_one _ _ _ (@ps_asg _ _ _ _ _ _ (@pe_tup _ _ _ _ _ (@pa_cons _ _ _ _ _ (@pe_ix _ _ _ _ _ _ _ ix_list (pv 5) (pv 4) (fun _ _ => rfl)) (@pa_cons _ _ _ _ _ (@pe_ix _ _ _ _ _ _ _ ix_list (pv 5) (pv 3) (fun _ _ => rfl)) pa_nil (by first | rfl | decide | exact Or.inl rfl | exact Or.inr rfl | exact Or.inr (Or.inl rfl) | exact Or.inr (Or.inr rfl) | exact fun _ => rfl | exact Nat.le_of_ble_eq_true rfl)) (by first | rfl | decide | exact Or.inl rfl | exact Or.inr rfl | exact Or.inr (Or.inl rfl) | exact Or.inr (Or.inr rfl) | exact fun _ => rfl | exact Nat.le_of_ble_eq_true rfl))) (pg_tup rfl (pgs_cons (pg_sub (pv 5) (pv 3) set_list) (pgs_cons (pg_sub (pv 5) (pv 4) set_list) pgs_nil))) (by first | rfl | decide | exact Or.inl rfl | exact Or.inr rfl | exact Or.inr (Or.inl rfl) | exact Or.inr (Or.inr rfl) | exact fun _ => rfl | exact Nat.le_of_ble_eq_true rfl) (by first | rfl | decide | exact Or.inl rfl | exact Or.inr rfl | exact Or.inr (Or.inl rfl) | exact Or.inr (Or.inr rfl) | exact fun _ => rfl | exact Nat.le_of_ble_eq_true rfl) (by first | rfl | decide | exact Or.inl rfl | exact Or.inr rfl | exact Or.inr (Or.inl rfl) | exact Or.inr (Or.inr rfl) | exact fun _ => rfl | exact Nat.le_of_ble_eq_true rfl))) pss_nil) (@pss_cons _ _ _ _ _ (@ps_compT _ _ _ _ _ _ _ _ _ _ _ _ _ 6 _ _ _ sc__law_orders.nd rfl rfl (CSc.of (N' := ["_law_k", "_law_order", "_law_i"]) (sub := [none, some 1, some 3]) (defScope (top 45)) ["_law_pot_here", "_law_order", "_law_many", "_law_i", "_law_j", "_law_row", "_law_other", "_law_some", "_law_ahead", "_law_behind"] rfl rfl (by decide +kernel) rfl) rfl (@pi_tup _ _ _ _ (pv 1)) (fun _ _ _ _ _ _ => pg_name (i := 0) (show (["_law_k", "_law_order", "_law_i"] : List Str).Nodup by decide +kernel) rfl (Or.inl rfl)) (fun _ _ _ _ _ _ => (pifs_one (@pt_cmpR _ _ _ _ _ _ _ _ op_ne (pe_bmF PySem.F.plainAttrs_tuple PySem.F.slot_tuple_index PySem.F.type_tuple_index (mt_tindex (K := K) rfl) (pv 1) (@pa_cons _ _ _ _ _ (pv 0) pa_nil (by first | rfl | decide | exact Or.inl rfl | exact Or.inr rfl | exact Or.inr (Or.inl rfl) | exact Or.inr (Or.inr rfl) | exact fun _ => rfl | exact Nat.le_of_ble_eq_true rfl))) (pv 2) (nomark _)))) (fun _ _ _ _ _ _ => (pv 0)) (by first | rfl | decide | exact Or.inl rfl | exact Or.inr rfl | exact Or.inr (Or.inl rfl) | exact Or.inr (Or.inr rfl) | exact fun _ => rfl | exact Nat.le_of_ble_eq_true rfl) (by first | rfl | decide | exact Or.inl rfl | exact Or.inr rfl | exact Or.inr (Or.inl rfl) | exact Or.inr (Or.inr rfl) | exact fun _ => rfl | exact Nat.le_of_ble_eq_true rfl)) (@pss_cons _ _ _ _ _ (@ps_set _ _ 6 _ _ _ _ sc__law_orders.nd rfl (Or.inl rfl) (@pe_op _ _ _ _ _ _ _ _ op_cat (@pe_op _ _ _ _ _ _ _ _ op_cat (@pe_slice _ _ _ _ _ _ _ _ _ _ sl_list (pv 6) po_none (@po_some _ _ _ (pv 4))) (@pe_callTy _ _ _ _ _ _ _ _ _ call_list_of rfl B.list b_list (@pa_cons _ _ _ _ _ (@pe_slice _ _ _ _ _ _ _ _ _ _ (sl_tupG (K := K) rfl) (pv 1) (@po_some _ _ _ (pv 3)) (@po_some _ _ _ (@pe_op _ _ _ _ _ _ _ _ op_add (pv 3) pe_int))) pa_nil (by first | rfl | decide | exact Or.inl rfl | exact Or.inr rfl | exact Or.inr (Or.inl rfl) | exact Or.inr (Or.inr rfl) | exact fun _ => rfl | exact Nat.le_of_ble_eq_true rfl)) (by first | rfl | decide | exact Or.inl rfl | exact Or.inr rfl | exact Or.inr (Or.inl rfl) | exact Or.inr (Or.inr rfl) | exact fun _ => rfl | exact Nat.le_of_ble_eq_true rfl) (by first | rfl | decide | exact Or.inl rfl | exact Or.inr rfl | exact Or.inr (Or.inl rfl) | exact Or.inr (Or.inr rfl) | exact fun _ => rfl | exact Nat.le_of_ble_eq_true rfl) (by first | rfl | decide | exact Or.inl rfl | exact Or.inr rfl | exact Or.inr (Or.inl rfl) | exact Or.inr (Or.inr rfl) | exact fun _ => rfl | exact Nat.le_of_ble_eq_true rfl) (by first | rfl | decide | exact Or.inl rfl | exact Or.inr rfl | exact Or.inr (Or.inl rfl) | exact Or.inr (Or.inr rfl) | exact fun _ => rfl | exact Nat.le_of_ble_eq_true rfl))) (@pe_slice _ _ _ _ _ _ _ _ _ _ sl_list (pv 6) (@po_some _ _ _ (pv 4)) po_none)) (by first | rfl | decide | exact Or.inl rfl | exact Or.inr rfl | exact Or.inr (Or.inl rfl) | exact Or.inr (Or.inr rfl) | exact fun _ => rfl | exact Nat.le_of_ble_eq_true rfl) (by first | rfl | decide | exact Or.inl rfl | exact Or.inr rfl | exact Or.inr (Or.inl rfl) | exact Or.inr (Or.inr rfl) | exact fun _ => rfl | exact Nat.le_of_ble_eq_true rfl)) (@pss_cons _ _ _ _ _ (@ps_set _ _ 7 _ _ _ _ sc__law_orders.nd rfl (Or.inl rfl) (@pe_lst _ _ _ _ (@pa_cons _ _ _ _ _ (pv 1) (@pa_cons _ _ _ _ _ (@pe_callTy _ _ _ _ _ _ _ _ _ call_tuple_of rfl B.tuple b_tuple (@pa_cons _ _ _ _ _ (pv 5) pa_nil (by first | rfl | decide | exact Or.inl rfl | exact Or.inr rfl | exact Or.inr (Or.inl rfl) | exact Or.inr (Or.inr rfl) | exact fun _ => rfl | exact Nat.le_of_ble_eq_true rfl)) (by first | rfl | decide | exact Or.inl rfl | exact Or.inr rfl | exact Or.inr (Or.inl rfl) | exact Or.inr (Or.inr rfl) | exact fun _ => rfl | exact Nat.le_of_ble_eq_true rfl) (by first | rfl | decide | exact Or.inl rfl | exact Or.inr rfl | exact Or.inr (Or.inl rfl) | exact Or.inr (Or.inr rfl) | exact fun _ => rfl | exact Nat.le_of_ble_eq_true rfl) (by first | rfl | decide | exact Or.inl rfl | exact Or.inr rfl | exact Or.inr (Or.inl rfl) | exact Or.inr (Or.inr rfl) | exact fun _ => rfl | exact Nat.le_of_ble_eq_true rfl) (by first | rfl | decide | exact Or.inl rfl | exact Or.inr rfl | exact Or.inr (Or.inl rfl) | exact Or.inr (Or.inr rfl) | exact fun _ => rfl | exact Nat.le_of_ble_eq_true rfl)) (@pa_cons _ _ _ _ _ (@pe_callTy _ _ _ _ _ _ _ _ _ call_tuple_of rfl B.tuple b_tuple (@pa_cons _ _ _ _ _ (pv 6) pa_nil (by first | rfl | decide | exact Or.inl rfl | exact Or.inr rfl | exact Or.inr (Or.inl rfl) | exact Or.inr (Or.inr rfl) | exact fun _ => rfl | exact Nat.le_of_ble_eq_true rfl)) (by first | rfl | decide | exact Or.inl rfl | exact Or.inr rfl | exact Or.inr (Or.inl rfl) | exact Or.inr (Or.inr rfl) | exact fun _ => rfl | exact Nat.le_of_ble_eq_true rfl) (by first | rfl | decide | exact Or.inl rfl | exact Or.inr rfl | exact Or.inr (Or.inl rfl) | exact Or.inr (Or.inr rfl) | exact fun _ => rfl | exact Nat.le_of_ble_eq_true rfl) (by first | rfl | decide | exact Or.inl rfl | exact Or.inr rfl | exact Or.inr (Or.inl rfl) | exact Or.inr (Or.inr rfl) | exact fun _ => rfl | exact Nat.le_of_ble_eq_true rfl) (by first | rfl | decide | exact Or.inl rfl | exact Or.inr rfl | exact Or.inr (Or.inl rfl) | exact Or.inr (Or.inr rfl) | exact fun _ => rfl | exact Nat.le_of_ble_eq_true rfl)) (@pa_cons _ _ _ _ _ (pe_revT (K := K) rfl (pv 1)) (@pa_cons _ _ _ _ _ (@pe_callTy _ _ _ _ _ _ _ _ _ call_tuple_of rfl B.tuple b_tuple (@pa_cons _ _ _ _ _ (@pe_callC _ _ _ _ _ _ _ _ _ _ c__law_shuffled hr rfl (@pa_cons _ _ _ _ _ (pv 0) (@pa_cons _ _ _ _ _ (pv 1) pa_nil (by first | rfl | decide | exact Or.inl rfl | exact Or.inr rfl | exact Or.inr (Or.inl rfl) | exact Or.inr (Or.inr rfl) | exact fun _ => rfl | exact Nat.le_of_ble_eq_true rfl)) (by first | rfl | decide | exact Or.inl rfl | exact Or.inr rfl | exact Or.inr (Or.inl rfl) | exact Or.inr (Or.inr rfl) | exact fun _ => rfl | exact Nat.le_of_ble_eq_true rfl)) (by first | rfl | decide | exact Or.inl rfl | exact Or.inr rfl | exact Or.inr (Or.inl rfl) | exact Or.inr (Or.inr rfl) | exact fun _ => rfl | exact Nat.le_of_ble_eq_true rfl) (by first | rfl | decide | exact Or.inl rfl | exact Or.inr rfl | exact Or.inr (Or.inl rfl) | exact Or.inr (Or.inr rfl) | exact fun _ => rfl | exact Nat.le_of_ble_eq_true rfl) (by first | rfl | decide | exact Or.inl rfl | exact Or.inr rfl | exact Or.inr (Or.inl rfl) | exact Or.inr (Or.inr rfl) | exact fun _ => rfl | exact Nat.le_of_ble_eq_true rfl)) pa_nil (by first | rfl | decide | exact Or.inl rfl | exact Or.inr rfl | exact Or.inr (Or.inl rfl) | exact Or.inr (Or.inr rfl) | exact fun _ => rfl | exact Nat.le_of_ble_eq_true rfl)) (by first | rfl | decide | exact Or.inl rfl | exact Or.inr rfl | exact Or.inr (Or.inl rfl) | exact Or.inr (Or.inr rfl) | exact fun _ => rfl | exact Nat.le_of_ble_eq_true rfl) (by first | rfl | decide | exact Or.inl rfl | exact Or.inr rfl | exact Or.inr (Or.inl rfl) | exact Or.inr (Or.inr rfl) | exact fun _ => rfl | exact Nat.le_of_ble_eq_true rfl) (by first | rfl | decide | exact Or.inl rfl | exact Or.inr rfl | exact Or.inr (Or.inl rfl) | exact Or.inr (Or.inr rfl) | exact fun _ => rfl | exact Nat.le_of_ble_eq_true rfl) (by first | rfl | decide | exact Or.inl rfl | exact Or.inr rfl | exact Or.inr (Or.inl rfl) | exact Or.inr (Or.inr rfl) | exact fun _ => rfl | exact Nat.le_of_ble_eq_true rfl)) (@pa_cons _ _ _ _ _ (@pe_callTy _ _ _ _ _ _ _ _ _ call_tuple_of rfl B.tuple b_tuple (@pa_cons _ _ _ _ _ (@pe_callB _ _ _ _ _ _ _ _ _ (call_sortedT (K := K) rfl) rfl g_sorted b_sorted (@pa_cons _ _ _ _ _ (pv 1) pa_nil (by first | rfl | decide | exact Or.inl rfl | exact Or.inr rfl | exact Or.inr (Or.inl rfl) | exact Or.inr (Or.inr rfl) | exact fun _ => rfl | exact Nat.le_of_ble_eq_true rfl)) (by first | rfl | decide | exact Or.inl rfl | exact Or.inr rfl | exact Or.inr (Or.inl rfl) | exact Or.inr (Or.inr rfl) | exact fun _ => rfl | exact Nat.le_of_ble_eq_true rfl) (by first | rfl | decide | exact Or.inl rfl | exact Or.inr rfl | exact Or.inr (Or.inl rfl) | exact Or.inr (Or.inr rfl) | exact fun _ => rfl | exact Nat.le_of_ble_eq_true rfl) (by first | rfl | decide | exact Or.inl rfl | exact Or.inr rfl | exact Or.inr (Or.inl rfl) | exact Or.inr (Or.inr rfl) | exact fun _ => rfl | exact Nat.le_of_ble_eq_true rfl) (by first | rfl | decide | exact Or.inl rfl | exact Or.inr rfl | exact Or.inr (Or.inl rfl) | exact Or.inr (Or.inr rfl) | exact fun _ => rfl | exact Nat.le_of_ble_eq_true rfl)) pa_nil (by first | rfl | decide | exact Or.inl rfl | exact Or.inr rfl | exact Or.inr (Or.inl rfl) | exact Or.inr (Or.inr rfl) | exact fun _ => rfl | exact Nat.le_of_ble_eq_true rfl)) (by first | rfl | decide | exact Or.inl rfl | exact Or.inr rfl | exact Or.inr (Or.inl rfl) | exact Or.inr (Or.inr rfl) | exact fun _ => rfl | exact Nat.le_of_ble_eq_true rfl) (by first | rfl | decide | exact Or.inl rfl | exact Or.inr rfl | exact Or.inr (Or.inl rfl) | exact Or.inr (Or.inr rfl) | exact fun _ => rfl | exact Nat.le_of_ble_eq_true rfl) (by first | rfl | decide | exact Or.inl rfl | exact Or.inr rfl | exact Or.inr (Or.inl rfl) | exact Or.inr (Or.inr rfl) | exact fun _ => rfl | exact Nat.le_of_ble_eq_true rfl) (by first | rfl | decide | exact Or.inl rfl | exact Or.inr rfl | exact Or.inr (Or.inl rfl) | exact Or.inr (Or.inr rfl) | exact fun _ => rfl | exact Nat.le_of_ble_eq_true rfl)) pa_nil (by first | rfl | decide | exact Or.inl rfl | exact Or.inr rfl | exact Or.inr (Or.inl rfl) | exact Or.inr (Or.inr rfl) | exact fun _ => rfl | exact Nat.le_of_ble_eq_true rfl)) (by first | rfl | decide | exact Or.inl rfl | exact Or.inr rfl | exact Or.inr (Or.inl rfl) | exact Or.inr (Or.inr rfl) | exact fun _ => rfl | exact Nat.le_of_ble_eq_true rfl)) (by first | rfl | decide | exact Or.inl rfl | exact Or.inr rfl | exact Or.inr (Or.inl rfl) | exact Or.inr (Or.inr rfl) | exact fun _ => rfl | exact Nat.le_of_ble_eq_true rfl)) (by first | rfl | decide | exact Or.inl rfl | exact Or.inr rfl | exact Or.inr (Or.inl rfl) | exact Or.inr (Or.inr rfl) | exact fun _ => rfl | exact Nat.le_of_ble_eq_true rfl)) (by first | rfl | decide | exact Or.inl rfl | exact Or.inr rfl | exact Or.inr (Or.inl rfl) | exact Or.inr (Or.inr rfl) | exact fun _ => rfl | exact Nat.le_of_ble_eq_true rfl)) (by first | rfl | decide | exact Or.inl rfl | exact Or.inr rfl | exact Or.inr (Or.inl rfl) | exact Or.inr (Or.inr rfl) | exact fun _ => rfl | exact Nat.le_of_ble_eq_true rfl))) (by first | rfl | decide | exact Or.inl rfl | exact Or.inr rfl | exact Or.inr (Or.inl rfl) | exact Or.inr (Or.inr rfl) | exact fun _ => rfl | exact Nat.le_of_ble_eq_true rfl) (by first | rfl | decide | exact Or.inl rfl | exact Or.inr rfl | exact Or.inr (Or.inl rfl) | exact Or.inr (Or.inr rfl) | exact fun _ => rfl | exact Nat.le_of_ble_eq_true rfl)) (@pss_cons _ _ _ _ _ (@ps_par _ _ 8 9 _ _ _ _ _ _ _ _ _ _ _ rfl sc__law_orders.nd rfl rfl (by decide) rfl rfl (@pa_cons _ _ _ _ _ (@pe_slice _ _ _ _ _ _ _ _ _ _ (sl_tupG (K := K) rfl) (pv 1) po_none (@po_some _ _ _ (pv 3))) (@pa_cons _ _ _ _ _ (@pe_slice _ _ _ _ _ _ _ _ _ _ (sl_tupG (K := K) rfl) (pv 1) (@po_some _ _ _ (@pe_op _ _ _ _ _ _ _ _ op_add (pv 3) pe_int)) po_none) pa_nil (by first | rfl | decide | exact Or.inl rfl | exact Or.inr rfl | exact Or.inr (Or.inl rfl) | exact Or.inr (Or.inr rfl) | exact fun _ => rfl | exact Nat.le_of_ble_eq_true rfl)) (by first | rfl | decide | exact Or.inl rfl | exact Or.inr rfl | exact Or.inr (Or.inl rfl) | exact Or.inr (Or.inr rfl) | exact fun _ => rfl | exact Nat.le_of_ble_eq_true rfl)) rfl (by first | rfl | decide | exact Or.inl rfl | exact Or.inr rfl | exact Or.inr (Or.inl rfl) | exact Or.inr (Or.inr rfl) | exact fun _ => rfl | exact Nat.le_of_ble_eq_true rfl)) (@pss_cons _ _ _ _ _ (@ps_set _ _ 7 _ _ _ _ sc__law_orders.nd rfl (Or.inl rfl) (@pe_op _ _ _ _ _ _ _ _ op_cat (pv 7) (@pe_lst _ _ _ _ (@pa_cons _ _ _ _ _ (@pe_callTy _ _ _ _ _ _ _ _ _ (call_listB (K := K) rfl) rfl B.list b_list (@pa_cons _ _ _ _ _ (pv 1) pa_nil (by first | rfl | decide | exact Or.inl rfl | exact Or.inr rfl | exact Or.inr (Or.inl rfl) | exact Or.inr (Or.inr rfl) | exact fun _ => rfl | exact Nat.le_of_ble_eq_true rfl)) (by first | rfl | decide | exact Or.inl rfl | exact Or.inr rfl | exact Or.inr (Or.inl rfl) | exact Or.inr (Or.inr rfl) | exact fun _ => rfl | exact Nat.le_of_ble_eq_true rfl) (by first | rfl | decide | exact Or.inl rfl | exact Or.inr rfl | exact Or.inr (Or.inl rfl) | exact Or.inr (Or.inr rfl) | exact fun _ => rfl | exact Nat.le_of_ble_eq_true rfl) (by first | rfl | decide | exact Or.inl rfl | exact Or.inr rfl | exact Or.inr (Or.inl rfl) | exact Or.inr (Or.inr rfl) | exact fun _ => rfl | exact Nat.le_of_ble_eq_true rfl) (by first | rfl | decide | exact Or.inl rfl | exact Or.inr rfl | exact Or.inr (Or.inl rfl) | exact Or.inr (Or.inr rfl) | exact fun _ => rfl | exact Nat.le_of_ble_eq_true rfl)) (@pa_cons _ _ _ _ _ (@pe_op _ _ _ _ _ _ _ _ (op_catG (K := K) rfl) (pv 1) (@pe_slice _ _ _ _ _ _ _ _ _ _ (sl_tupG (K := K) rfl) (pv 1) po_none (@po_some _ _ _ pe_int))) (@pa_cons _ _ _ _ _ (@pe_op _ _ _ _ _ _ _ _ (op_catG (K := K) rfl) (pv 8) (pv 9)) (@pa_cons _ _ _ _ _ (@pe_op _ _ _ _ _ _ _ _ (op_catG (K := K) rfl) (@pe_op _ _ _ _ _ _ _ _ (op_catG (K := K) rfl) (pv 8) (@pe_slice _ _ _ _ _ _ _ _ _ _ (sl_tupG (K := K) rfl) (pv 1) (@po_some _ _ _ (pv 4)) (@po_some _ _ _ (@pe_op _ _ _ _ _ _ _ _ op_add (pv 4) pe_int)))) (pv 9)) pa_nil (by first | rfl | decide | exact Or.inl rfl | exact Or.inr rfl | exact Or.inr (Or.inl rfl) | exact Or.inr (Or.inr rfl) | exact fun _ => rfl | exact Nat.le_of_ble_eq_true rfl)) (by first | rfl | decide | exact Or.inl rfl | exact Or.inr rfl | exact Or.inr (Or.inl rfl) | exact Or.inr (Or.inr rfl) | exact fun _ => rfl | exact Nat.le_of_ble_eq_true rfl)) (by first | rfl | decide | exact Or.inl rfl | exact Or.inr rfl | exact Or.inr (Or.inl rfl) | exact Or.inr (Or.inr rfl) | exact fun _ => rfl | exact Nat.le_of_ble_eq_true rfl)) (by first | rfl | decide | exact Or.inl rfl | exact Or.inr rfl | exact Or.inr (Or.inl rfl) | exact Or.inr (Or.inr rfl) | exact fun _ => rfl | exact Nat.le_of_ble_eq_true rfl)))) (by first | rfl | decide | exact Or.inl rfl | exact Or.inr rfl | exact Or.inr (Or.inl rfl) | exact Or.inr (Or.inr rfl) | exact fun _ => rfl | exact Nat.le_of_ble_eq_true rfl) (by first | rfl | decide | exact Or.inl rfl | exact Or.inr rfl | exact Or.inr (Or.inl rfl) | exact Or.inr (Or.inr rfl) | exact fun _ => rfl | exact Nat.le_of_ble_eq_true rfl)) (@pss_cons _ _ _ _ _ (@ps_set _ _ 7 _ _ _ _ sc__law_orders.nd rfl (Or.inl rfl) (@pe_op _ _ _ _ _ _ _ _ op_cat (pv 7) (@pe_lst _ _ _ _ (@pa_cons _ _ _ _ _ (@pe_op _ _ _ _ _ _ _ _ (op_catG (K := K) rfl) (@pe_op _ _ _ _ _ _ _ _ (op_catG (K := K) rfl) (pv 8) (@pe_tup _ _ _ _ _ (@pa_cons _ _ _ _ _ (pv 2) pa_nil (by first | rfl | decide | exact Or.inl rfl | exact Or.inr rfl | exact Or.inr (Or.inl rfl) | exact Or.inr (Or.inr rfl) | exact fun _ => rfl | exact Nat.le_of_ble_eq_true rfl)))) (pv 9)) (@pa_cons _ _ _ _ _ (@pe_op _ _ _ _ _ _ _ _ (op_catG (K := K) rfl) (@pe_op _ _ _ _ _ _ _ _ (op_catG (K := K) rfl) (pv 8) (@pe_tup _ _ _ _ _ (@pa_cons _ _ _ _ _ (@pe_un _ _ _ _ _ _ un_neg pe_int) pa_nil (by first | rfl | decide | exact Or.inl rfl | exact Or.inr rfl | exact Or.inr (Or.inl rfl) | exact Or.inr (Or.inr rfl) | exact fun _ => rfl | exact Nat.le_of_ble_eq_true rfl)))) (pv 9)) (@pa_cons _ _ _ _ _ (@pe_op _ _ _ _ _ _ _ _ (op_catG (K := K) rfl) (pv 1) (@pe_tup _ _ _ _ _ (@pa_cons _ _ _ _ _ (pv 2) pa_nil (by first | rfl | decide | exact Or.inl rfl | exact Or.inr rfl | exact Or.inr (Or.inl rfl) | exact Or.inr (Or.inr rfl) | exact fun _ => rfl | exact Nat.le_of_ble_eq_true rfl)))) (@pa_cons _ _ _ _ _ pe_non (@pa_cons _ _ _ _ _ pe_int (@pa_cons _ _ _ _ _ pe_str (@pa_cons _ _ _ _ _ (po_dnil (K := K)) pa_nil (by first | rfl | decide | exact Or.inl rfl | exact Or.inr rfl | exact Or.inr (Or.inl rfl) | exact Or.inr (Or.inr rfl) | exact fun _ => rfl | exact Nat.le_of_ble_eq_true rfl)) (by first | rfl | decide | exact Or.inl rfl | exact Or.inr rfl | exact Or.inr (Or.inl rfl) | exact Or.inr (Or.inr rfl) | exact fun _ => rfl | exact Nat.le_of_ble_eq_true rfl)) (by first | rfl | decide | exact Or.inl rfl | exact Or.inr rfl | exact Or.inr (Or.inl rfl) | exact Or.inr (Or.inr rfl) | exact fun _ => rfl | exact Nat.le_of_ble_eq_true rfl)) (by first | rfl | decide | exact Or.inl rfl | exact Or.inr rfl | exact Or.inr (Or.inl rfl) | exact Or.inr (Or.inr rfl) | exact fun _ => rfl | exact Nat.le_of_ble_eq_true rfl)) (by first | rfl | decide | exact Or.inl rfl | exact Or.inr rfl | exact Or.inr (Or.inl rfl) | exact Or.inr (Or.inr rfl) | exact fun _ => rfl | exact Nat.le_of_ble_eq_true rfl)) (by first | rfl | decide | exact Or.inl rfl | exact Or.inr rfl | exact Or.inr (Or.inl rfl) | exact Or.inr (Or.inr rfl) | exact fun _ => rfl | exact Nat.le_of_ble_eq_true rfl)) (by first | rfl | decide | exact Or.inl rfl | exact Or.inr rfl | exact Or.inr (Or.inl rfl) | exact Or.inr (Or.inr rfl) | exact fun _ => rfl | exact Nat.le_of_ble_eq_true rfl)))) (by first | rfl | decide | exact Or.inl rfl | exact Or.inr rfl | exact Or.inr (Or.inl rfl) | exact Or.inr (Or.inr rfl) | exact fun _ => rfl | exact Nat.le_of_ble_eq_true rfl) (by first | rfl | decide | exact Or.inl rfl | exact Or.inr rfl | exact Or.inr (Or.inl rfl) | exact Or.inr (Or.inr rfl) | exact fun _ => rfl | exact Nat.le_of_ble_eq_true rfl)) (@pss_cons _ _ _ _ _ (@ps_set _ _ 7 _ _ _ _ sc__law_orders.nd rfl (Or.inl rfl) (@pe_op _ _ _ _ _ _ _ _ op_cat (pv 7) (@pe_lst _ _ _ _ (@pa_cons _ _ _ _ _ (@pe_callTy _ _ _ _ _ _ _ _ _ call_tuple_of rfl B.tuple b_tuple (@pa_cons _ _ _ _ _ (@pe_compT _ _ _ _ _ _ _ _ _ _ _ _ _ (CSc.of (N' := ["_law_k"]) (sub := [none]) (defScope (top 45)) ["_law_pot_here", "_law_order", "_law_many", "_law_i", "_law_j", "_law_row", "_law_other", "_law_some", "_law_ahead", "_law_behind"] rfl rfl (by decide +kernel) rfl) rfl (@pi_tup _ _ _ _ (pv 1)) (fun _ _ _ _ _ _ => pg_name (i := 0) (show (["_law_k"] : List Str).Nodup by decide +kernel) rfl (Or.inl rfl)) (fun _ _ _ _ _ _ => pifs_nil) (fun _ _ _ _ _ _ => (@pe_ix _ _ _ _ _ _ _ (ix_listK (K := K) rfl) (@pe_lst _ _ _ _ (@pa_cons _ _ _ _ _ (pv 0) (@pa_cons _ _ _ _ _ (@pe_cmpR _ _ _ _ _ _ _ _ op_eq (pv 0) pe_int (nomark _)) pa_nil (by first | rfl | decide | exact Or.inl rfl | exact Or.inr rfl | exact Or.inr (Or.inl rfl) | exact Or.inr (Or.inr rfl) | exact fun _ => rfl | exact Nat.le_of_ble_eq_true rfl)) (by first | rfl | decide | exact Or.inl rfl | exact Or.inr rfl | exact Or.inr (Or.inl rfl) | exact Or.inr (Or.inr rfl) | exact fun _ => rfl | exact Nat.le_of_ble_eq_true rfl))) (@pe_callTy _ _ _ _ _ _ _ _ _ call_int1 rfl B.int b_int (@pa_cons _ _ _ _ _ (@pe_cmpR _ _ _ _ _ _ _ _ op_lt (pv 0) pe_int (nomark _)) pa_nil (by first | rfl | decide | exact Or.inl rfl | exact Or.inr rfl | exact Or.inr (Or.inl rfl) | exact Or.inr (Or.inr rfl) | exact fun _ => rfl | exact Nat.le_of_ble_eq_true rfl)) (by first | rfl | decide | exact Or.inl rfl | exact Or.inr rfl | exact Or.inr (Or.inl rfl) | exact Or.inr (Or.inr rfl) | exact fun _ => rfl | exact Nat.le_of_ble_eq_true rfl) (by first | rfl | decide | exact Or.inl rfl | exact Or.inr rfl | exact Or.inr (Or.inl rfl) | exact Or.inr (Or.inr rfl) | exact fun _ => rfl | exact Nat.le_of_ble_eq_true rfl) (by first | rfl | decide | exact Or.inl rfl | exact Or.inr rfl | exact Or.inr (Or.inl rfl) | exact Or.inr (Or.inr rfl) | exact fun _ => rfl | exact Nat.le_of_ble_eq_true rfl) (by first | rfl | decide | exact Or.inl rfl | exact Or.inr rfl | exact Or.inr (Or.inl rfl) | exact Or.inr (Or.inr rfl) | exact fun _ => rfl | exact Nat.le_of_ble_eq_true rfl)) (fun _ _ => rfl))) (by first | rfl | decide | exact Or.inl rfl | exact Or.inr rfl | exact Or.inr (Or.inl rfl) | exact Or.inr (Or.inr rfl) | exact fun _ => rfl | exact Nat.le_of_ble_eq_true rfl)) pa_nil (by first | rfl | decide | exact Or.inl rfl | exact Or.inr rfl | exact Or.inr (Or.inl rfl) | exact Or.inr (Or.inr rfl) | exact fun _ => rfl | exact Nat.le_of_ble_eq_true rfl)) (by first | rfl | decide | exact Or.inl rfl | exact Or.inr rfl | exact Or.inr (Or.inl rfl) | exact Or.inr (Or.inr rfl) | exact fun _ => rfl | exact Nat.le_of_ble_eq_true rfl) (by first | rfl | decide | exact Or.inl rfl | exact Or.inr rfl | exact Or.inr (Or.inl rfl) | exact Or.inr (Or.inr rfl) | exact fun _ => rfl | exact Nat.le_of_ble_eq_true rfl) (by first | rfl | decide | exact Or.inl rfl | exact Or.inr rfl | exact Or.inr (Or.inl rfl) | exact Or.inr (Or.inr rfl) | exact fun _ => rfl | exact Nat.le_of_ble_eq_true rfl) (by first | rfl | decide | exact Or.inl rfl | exact Or.inr rfl | exact Or.inr (Or.inl rfl) | exact Or.inr (Or.inr rfl) | exact fun _ => rfl | exact Nat.le_of_ble_eq_true rfl)) (@pa_cons _ _ _ _ _ (@pe_callTy _ _ _ _ _ _ _ _ _ call_tuple_of rfl B.tuple b_tuple (@pa_cons _ _ _ _ _ (@pe_compT _ _ _ _ _ _ _ _ _ _ _ _ _ (CSc.of (N' := ["_law_k"]) (sub := [none]) (defScope (top 45)) ["_law_pot_here", "_law_order", "_law_many", "_law_i", "_law_j", "_law_row", "_law_other", "_law_some", "_law_ahead", "_law_behind"] rfl rfl (by decide +kernel) rfl) rfl (@pi_tup _ _ _ _ (pv 1)) (fun _ _ _ _ _ _ => pg_name (i := 0) (show (["_law_k"] : List Str).Nodup by decide +kernel) rfl (Or.inl rfl)) (fun _ _ _ _ _ _ => pifs_nil) (fun _ _ _ _ _ _ => (@pe_callTy _ _ _ _ _ _ _ _ _ call_str_int rfl B.str b_str (@pa_cons _ _ _ _ _ (pv 0) pa_nil (by first | rfl | decide | exact Or.inl rfl | exact Or.inr rfl | exact Or.inr (Or.inl rfl) | exact Or.inr (Or.inr rfl) | exact fun _ => rfl | exact Nat.le_of_ble_eq_true rfl)) (by first | rfl | decide | exact Or.inl rfl | exact Or.inr rfl | exact Or.inr (Or.inl rfl) | exact Or.inr (Or.inr rfl) | exact fun _ => rfl | exact Nat.le_of_ble_eq_true rfl) (by first | rfl | decide | exact Or.inl rfl | exact Or.inr rfl | exact Or.inr (Or.inl rfl) | exact Or.inr (Or.inr rfl) | exact fun _ => rfl | exact Nat.le_of_ble_eq_true rfl) (by first | rfl | decide | exact Or.inl rfl | exact Or.inr rfl | exact Or.inr (Or.inl rfl) | exact Or.inr (Or.inr rfl) | exact fun _ => rfl | exact Nat.le_of_ble_eq_true rfl) (by first | rfl | decide | exact Or.inl rfl | exact Or.inr rfl | exact Or.inr (Or.inl rfl) | exact Or.inr (Or.inr rfl) | exact fun _ => rfl | exact Nat.le_of_ble_eq_true rfl))) (by first | rfl | decide | exact Or.inl rfl | exact Or.inr rfl | exact Or.inr (Or.inl rfl) | exact Or.inr (Or.inr rfl) | exact fun _ => rfl | exact Nat.le_of_ble_eq_true rfl)) pa_nil (by first | rfl | decide | exact Or.inl rfl | exact Or.inr rfl | exact Or.inr (Or.inl rfl) | exact Or.inr (Or.inr rfl) | exact fun _ => rfl | exact Nat.le_of_ble_eq_true rfl)) (by first | rfl | decide | exact Or.inl rfl | exact Or.inr rfl | exact Or.inr (Or.inl rfl) | exact Or.inr (Or.inr rfl) | exact fun _ => rfl | exact Nat.le_of_ble_eq_true rfl) (by first | rfl | decide | exact Or.inl rfl | exact Or.inr rfl | exact Or.inr (Or.inl rfl) | exact Or.inr (Or.inr rfl) | exact fun _ => rfl | exact Nat.le_of_ble_eq_true rfl) (by first | rfl | decide | exact Or.inl rfl | exact Or.inr rfl | exact Or.inr (Or.inl rfl) | exact Or.inr (Or.inr rfl) | exact fun _ => rfl | exact Nat.le_of_ble_eq_true rfl) (by first | rfl | decide | exact Or.inl rfl | exact Or.inr rfl | exact Or.inr (Or.inl rfl) | exact Or.inr (Or.inr rfl) | exact fun _ => rfl | exact Nat.le_of_ble_eq_true rfl)) (@pa_cons _ _ _ _ _ (@pe_tup _ _ _ _ _ (@pa_cons _ _ _ _ _ (pv 1) pa_nil (by first | rfl | decide | exact Or.inl rfl | exact Or.inr rfl | exact Or.inr (Or.inl rfl) | exact Or.inr (Or.inr rfl) | exact fun _ => rfl | exact Nat.le_of_ble_eq_true rfl))) pa_nil (by first | rfl | decide | exact Or.inl rfl | exact Or.inr rfl | exact Or.inr (Or.inl rfl) | exact Or.inr (Or.inr rfl) | exact fun _ => rfl | exact Nat.le_of_ble_eq_true rfl)) (by first | rfl | decide | exact Or.inl rfl | exact Or.inr rfl | exact Or.inr (Or.inl rfl) | exact Or.inr (Or.inr rfl) | exact fun _ => rfl | exact Nat.le_of_ble_eq_true rfl)) (by first | rfl | decide | exact Or.inl rfl | exact Or.inr rfl | exact Or.inr (Or.inl rfl) | exact Or.inr (Or.inr rfl) | exact fun _ => rfl | exact Nat.le_of_ble_eq_true rfl)))) (by first | rfl | decide | exact Or.inl rfl | exact Or.inr rfl | exact Or.inr (Or.inl rfl) | exact Or.inr (Or.inr rfl) | exact fun _ => rfl | exact Nat.le_of_ble_eq_true rfl) (by first | rfl | decide | exact Or.inl rfl | exact Or.inr rfl | exact Or.inr (Or.inl rfl) | exact Or.inr (Or.inr rfl) | exact fun _ => rfl | exact Nat.le_of_ble_eq_true rfl)) (@pss_one _ _ _ (@ps_ret _ _ _ _ (@pe_op _ _ _ _ _ _ _ _ op_catB72 (pv 7) (@pe_lst _ _ _ _ (@pa_cons _ _ _ _ _ (@pe_op _ _ _ _ _ _ _ _ (op_catG (K := K) rfl) (@pe_op _ _ _ _ _ _ _ _ (op_catG (K := K) rfl) (pv 8) (@pe_tup _ _ _ _ _ (@pa_cons _ _ _ _ _ pe_non pa_nil (by first | rfl | decide | exact Or.inl rfl | exact Or.inr rfl | exact Or.inr (Or.inl rfl) | exact Or.inr (Or.inr rfl) | exact fun _ => rfl | exact Nat.le_of_ble_eq_true rfl)))) (pv 9)) (@pa_cons _ _ _ _ _ (@pe_lstB _ _ _ _ pa_nil) (@pa_cons _ _ _ _ _ (@pe_tup _ _ _ _ _ (@pa_cons _ _ _ _ _ pe_int pa_nil (by first | rfl | decide | exact Or.inl rfl | exact Or.inr rfl | exact Or.inr (Or.inl rfl) | exact Or.inr (Or.inr rfl) | exact fun _ => rfl | exact Nat.le_of_ble_eq_true rfl))) (@pa_cons _ _ _ _ _ (@pe_callTy _ _ _ _ _ _ _ _ _ call_tuple_of rfl B.tuple b_tuple (@pa_cons _ _ _ _ _ (@pe_compT _ _ _ _ _ _ _ _ _ _ _ _ _ (CSc.of (N' := ["_law_k"]) (sub := [none]) (defScope (top 45)) ["_law_pot_here", "_law_order", "_law_many", "_law_i", "_law_j", "_law_row", "_law_other", "_law_some", "_law_ahead", "_law_behind"] rfl rfl (by decide +kernel) rfl) rfl (@pi_tup _ _ _ _ (pv 1)) (fun _ _ _ _ _ _ => pg_name (i := 0) (show (["_law_k"] : List Str).Nodup by decide +kernel) rfl (Or.inl rfl)) (fun _ _ _ _ _ _ => pifs_nil) (fun _ _ _ _ _ _ => (@pe_lstB _ _ _ _ (@pa_cons _ _ _ _ _ (pv 0) pa_nil (by first | rfl | decide | exact Or.inl rfl | exact Or.inr rfl | exact Or.inr (Or.inl rfl) | exact Or.inr (Or.inr rfl) | exact fun _ => rfl | exact Nat.le_of_ble_eq_true rfl)))) (by first | rfl | decide | exact Or.inl rfl | exact Or.inr rfl | exact Or.inr (Or.inl rfl) | exact Or.inr (Or.inr rfl) | exact fun _ => rfl | exact Nat.le_of_ble_eq_true rfl)) pa_nil (by first | rfl | decide | exact Or.inl rfl | exact Or.inr rfl | exact Or.inr (Or.inl rfl) | exact Or.inr (Or.inr rfl) | exact fun _ => rfl | exact Nat.le_of_ble_eq_true rfl)) (by first | rfl | decide | exact Or.inl rfl | exact Or.inr rfl | exact Or.inr (Or.inl rfl) | exact Or.inr (Or.inr rfl) | exact fun _ => rfl | exact Nat.le_of_ble_eq_true rfl) (by first | rfl | decide | exact Or.inl rfl | exact Or.inr rfl | exact Or.inr (Or.inl rfl) | exact Or.inr (Or.inr rfl) | exact fun _ => rfl | exact Nat.le_of_ble_eq_true rfl) (by first | rfl | decide | exact Or.inl rfl | exact Or.inr rfl | exact Or.inr (Or.inl rfl) | exact Or.inr (Or.inr rfl) | exact fun _ => rfl | exact Nat.le_of_ble_eq_true rfl) (by first | rfl | decide | exact Or.inl rfl | exact Or.inr rfl | exact Or.inr (Or.inl rfl) | exact Or.inr (Or.inr rfl) | exact fun _ => rfl | exact Nat.le_of_ble_eq_true rfl)) pa_nil (by first | rfl | decide | exact Or.inl rfl | exact Or.inr rfl | exact Or.inr (Or.inl rfl) | exact Or.inr (Or.inr rfl) | exact fun _ => rfl | exact Nat.le_of_ble_eq_true rfl)) (by first | rfl | decide | exact Or.inl rfl | exact Or.inr rfl | exact Or.inr (Or.inl rfl) | exact Or.inr (Or.inr rfl) | exact fun _ => rfl | exact Nat.le_of_ble_eq_true rfl)) (by first | rfl | decide | exact Or.inl rfl | exact Or.inr rfl | exact Or.inr (Or.inl rfl) | exact Or.inr (Or.inr rfl) | exact fun _ => rfl | exact Nat.le_of_ble_eq_true rfl)) (by first | rfl | decide | exact Or.inl rfl | exact Or.inr rfl | exact Or.inr (Or.inl rfl) | exact Or.inr (Or.inr rfl) | exact fun _ => rfl | exact Nat.le_of_ble_eq_true rfl))))))))))))))))), ?_⟩
  have vl : (natsV ns).length = ns.length := natsV_len
  have hI := i_nats hlt
  have cl1 := cutV_length (natsV ns)
  refine c_asg (fun v H' => v = .int ns.length ∧ H' = H) (fun Kk hk => ⟨_, rfl, ro, _, rfl, .inr hro.sqT, hk _ _ ⟨by rw [vl], rfl⟩⟩) ?_
  rintro _ H ⟨rfl, rfl⟩
  refine ⟨_, rfl, _, rfl, _, _, rfl, _, _, rfl, p, _, rfl, rfl, pp, by split <;> omega, Int.lt_of_le_of_lt (b := 100) (by split <;> omega) (by decide), fun i' H1 i0 i1 g1 pp1 => ?_⟩
  refine ⟨_, rfl, _, rfl, _, _, rfl, _, _, rfl, p, _, rfl, rfl, pp1, by split <;> omega, Int.lt_of_le_of_lt (b := 100) (by split <;> omega) (by decide), fun j' H2 j0 j1 g2 pp2 => ⟨szl rfl, fun t2 ht2 => ⟨t2, _, rfl, SqT.of upd_same, rfl, _, _, rfl, _, _, rfl, rfl, ?_⟩⟩⟩
  obtain ⟨i, rfl⟩ := Int.eq_ofNat_of_zero_le i0
  obtain ⟨j, rfl⟩ := Int.eq_ofNat_of_zero_le j0
  have G2 := g1.trans (g2.trans (Grow.new ht2 (.tup [V.int i, V.int j])))
  have pp2' := pp2.grow (Grow.new ht2 (.tup [V.int i, V.int j]))
  have hro2 := G2.frT hro
  generalize upd H2 t2 (.tup [V.int i, V.int j]) = H3 at G2 pp2' hro2 ⊢
  clear g1 g2 pp1 pp2
  try dsimp only
  refine c_asg (fun v H' => ∃ rr, v = .ref rr ∧ H3 rr = none ∧ H' = upd H3 rr (.lst (natsV ns))) (fun Kk hk => ⟨_, rfl, ro, _, rfl, .inr hro2.sqT, fun rr hrr nrr => hk _ _ ⟨rr, rfl, hrr, rfl⟩⟩) ?_
  rintro _ _ ⟨rr, rfl, nrr, rfl⟩
  have nrp := pot_ne72 pp2' nrr
  have frr : H rr = none := G2.free nrp nrr
  refine c_if (fun σ' H' => ∃ vs : List V, σ' = [some (.ref p), some (.ref ro), some (.int ns.length), some (.int i), some (.int j), some (.ref rr), none, none, none, none] ∧ H' rr = some (.lst vs) ∧ (∀ v ∈ vs, I72 v) ∧ vs.length = ns.length ∧ Grow [p, rr] H H' ∧ Pot H' p) ?_ (fun hk => ?_)
  rotate_left
  · have Gr : Grow [p, rr] H (upd H3 rr (.lst (natsV ns))) := (G2.mono (by simp)).trans (Grow.new nrr _)
    have ppr := pp2'.grow (Grow.new nrr (.lst (natsV ns)))
    refine ⟨_, rfl, _, _, rfl, rfl, _, rfl, ?_⟩
    by_cases n0 : 0 < ns.length
    · have hi : i < (natsV ns).length := by rw [vl]; split at i1 <;> omega
      have hj : j < (natsV ns).length := by rw [vl]; split at j1 <;> omega
      have h0 : upd H3 rr (.lst (natsV ns)) rr = some (.lst (natsV ns)) := upd_same
      refine iteT' (decide_eq_true (by omega)) ⟨_, rfl, _, rfl, rr, _, _, (natsV ns)[j], rfl, rfl, SqL.of h0, atI_nat (List.getElem?_eq_getElem hj), _, rfl, _, rfl, rr, _, _, (natsV ns)[i], rfl, rfl, SqL.of h0, atI_nat (List.getElem?_eq_getElem hi), szl rfl, fun t ht => ?_⟩
      have gt := Grow.new (m := [p, rr]) ht (.tup [(natsV ns)[j], (natsV ns)[i]])
      have h1 : upd (upd H3 rr (.lst (natsV ns))) t (.tup [(natsV ns)[j], (natsV ns)[i]]) rr = some (.lst (natsV ns)) := by rw [upd_ne (ne_of_none h0 ht)]; exact h0
      refine ⟨t, _, rfl, SqT.of upd_same, rfl, _, _, rfl, _, rfl, _, rfl, rr, _, _, i, rfl, rfl, h1, ixN_nat (i := (i : Int)) (by omega) hi, _, _, rfl, _, rfl, _, rfl, rr, _, _, j, rfl, rfl, upd_same, ixN_nat (i := (j : Int)) (by omega) (by rw [List.length_set]; exact hj), rfl, ?_⟩
      refine hk _ _ ⟨_, rfl, upd_same, i_set (i_set hI (hI _ (List.getElem_mem hj))) (hI _ (List.getElem_mem hi)), by rw [List.length_set, List.length_set, vl], Gr.trans (gt.trans ((Grow.set h1 (by simp) _).trans (Grow.set upd_same (by simp) _))), ?_⟩
      obtain ⟨a, b, e, a0⟩ := ppr
      have np : p ≠ rr := fun z => nrp (by rw [z]; simp)
      have nt : p ≠ t := fun z => by rw [← z, e] at ht; cases ht
      exact ⟨a, b, by rw [upd_ne np, upd_ne np, upd_ne nt]; exact e, a0⟩
    · exact iteF' (decide_eq_false (by omega)) (hk _ _ ⟨natsV ns, rfl, upd_same, hI, vl, Gr, ppr⟩)
  rintro _ H4 ⟨vr, rfl, hr4, vrI, vrl, G4', pp4⟩
  have G4 := Grow.shrink2 (f := p) (l := rr) G4' frr
  have hro4 := G4.frT hro
  clear G2 G4' hro2 pp2'
  refine c_asg (fun v H' => ∃ (lo : Addr) (ws : List V), v = .ref lo ∧ H4 lo = none ∧ H' = upd H4 lo (.lst ws) ∧ (∀ v ∈ ws, I72 v) ∧ ws.length ≤ ns.length) (fun Kk hk => ⟨_, rfl, ro, rfl, ⟨_, hro4.sqT⟩, comp_tup (xs := natsV ns) (fun n ys σ H' => (∃ e, σ = [e, some (.ref ro), some (.int i)]) ∧ H' = H4 ∧ ys.length ≤ n ∧ ∀ v ∈ ys, I72 v) ⟨⟨_, rfl⟩, rfl, Nat.le_refl _, (fun _ h => nomatch h)⟩ (fun n ys σ H' _ z => by rw [z.2.1]; exact hro4.sqT) ?_ ?_⟩) ?_
  · rintro n x ys σ H' hx ⟨⟨e, rfl⟩, rfl, yl, yI⟩
    obtain ⟨k, hki, rfl⟩ := natsV_at72 hx
    have hn := (List.getElem?_eq_some_iff.mp hki).1
    refine ⟨_, rfl, ⟨ro, _, rfl, hro4⟩, _, rfl, ro, ns, k, rfl, rfl, hro4.sqT, List.mem_of_getElem? hki, by omega, _, rfl, rfl, _, rfl, ?_⟩
    refine ite2 (fun c => ?_) (fun c => ?_)
    · refine ⟨_, rfl, lt72 (by omega), ⟨_, rfl⟩, rfl, by rw [List.length_append, List.length_singleton]; omega, fun v hv => ?_⟩
      rcases List.mem_append.mp hv with hv | hv
      · exact yI v hv
      · rw [List.mem_singleton.mp hv]; exact hI _ (List.mem_of_getElem? hx)
    · exact ⟨⟨_, rfl⟩, rfl, by omega, yI⟩
  · rintro ys σ H' ⟨_, rfl, yl, yI⟩ lo hlo
    exact hk _ _ ⟨lo, ys, rfl, hlo, rfl, yI, by rw [vl] at yl; exact yl⟩
  rintro _ _ ⟨lo, ws, rfl, nlo, rfl, wI, wl⟩
  have glo := Grow.new (m := []) nlo (.lst ws)
  have hro5 := glo.frT hro4
  have hr5 := glo.keep _ _ (by simp) hr4
  have pp5 := pp4.grow glo
  have hlo5 : upd H4 lo (.lst ws) lo = some (.lst ws) := upd_same
  have G5 := G4.trans (glo.wk (m := [p]))
  generalize upd H4 lo (.lst ws) = H5 at G5 hro5 hr5 pp5 hlo5 ⊢
  have cl2 := cutV_length ws
  refine c_asg (fun v H' => ∃ (lo : Addr) (us : List V), v = .ref lo ∧ H' lo = some (.lst us) ∧ (∀ v ∈ us, I72 v) ∧ us.length ≤ 41 ∧ Grow [] H5 H') (fun Kk hk => ⟨_, rfl, _, rfl, _, rfl, lo, _, rfl, SqL.of hlo5, fun p1 hp1 => ?_⟩) ?_
  · have g1 := Grow.new (m := []) hp1 (.lst (cutV ws none (some (j : Int))))
    refine ⟨_, rfl, _, rfl, _, rfl, _, rfl, _, _, rfl, rfl, _, rfl, ro, _, rfl, (g1.frT hro5).sqT, fun p2 H6 g2 h2 => ⟨p2, _, rfl, .inr h2, fun p3 hp3 => ?_⟩⟩
    have g3 := Grow.new (m := []) hp3 (.lst (cutV (natsV ns) (some (i : Int)) (some ((i : Int) + 1))))
    have h13 := (g2.trans g3).keep _ _ (by simp) (upd_same (H := H5) (a := p1) (o := .lst (cutV ws none (some (j : Int)))))
    refine ⟨p1, p3, _, _, rfl, rfl, h13, upd_same, ?_, fun p4 hp4 => ?_⟩
    · have := cl2 none (some (j : Int)); have := cl1 (some (i : Int)) (some ((i : Int) + 1)); exact le72 (by omega)
    have g4 := Grow.new (m := []) hp4 (.lst (cutV ws none (some (j : Int)) ++ cutV (natsV ns) (some (i : Int)) (some ((i : Int) + 1))))
    have Ga := g1.trans (g2.trans (g3.trans g4))
    refine ⟨_, rfl, _, rfl, _, rfl, lo, _, rfl, SqL.of (Ga.keep _ _ (by simp) hlo5), fun p5 hp5 => ?_⟩
    have g5 := Grow.new (m := []) hp5 (.lst (cutV ws (some (j : Int)) none))
    refine ⟨p4, p5, _, _, rfl, rfl, g5.keep _ _ (by simp) upd_same, upd_same, ?_, fun p6 hp6 => ?_⟩
    · have := cl2 none (some (j : Int)); have := cl1 (some (i : Int)) (some ((i : Int) + 1)); have := cl2 (some (j : Int)) none
      exact le72 (by rw [List.length_append]; omega)
    refine hk _ _ ⟨p6, _, rfl, upd_same, i_app (i_app (i_cut wI) (i_cut hI)) (i_cut wI), ?_, Ga.trans (g5.trans (Grow.new hp6 _))⟩
    have c1 := cut_one72 (natsV ns) i
    rw [cut_pre, cut_suf, List.length_append, List.length_append, List.length_take, List.length_drop]
    omega
  rintro _ H6 ⟨lo2, us, rfl, hlo6, uI, ul, g6⟩
  have hro6 := g6.frT hro5
  have hr6 := g6.keep _ _ (by simp) hr5
  have pp6 := pp5.grow g6
  have G6 := G5.trans (g6.wk (m := [p]))
  clear g6 G5 hro5 hr5 pp5 hlo5 glo hro4 hr4 pp4 G4
  have nE : ∀ {H' : Hp}, ∀ v ∈ natsV ns, E72 K p H' v := i_e hI
  have v64 : (natsV ns).length < 64 := by omega
  refine c_asg (fun v H' => ∃ (l7 : Addr) (xs : List V), v = .ref l7 ∧ S72 K p H' l7 xs 6 ∧ Grow [p] H6 H' ∧ Pot H' p) (fun Kk hk => ⟨_, rfl, _, rfl, rr, _, rfl, .inl ⟨SqL.of hr6, fun t1 ht1 => ?_⟩⟩) ?_
  · have g1 := Grow.new (m := []) ht1 (.tup vr)
    refine ⟨_, rfl, lo2, _, rfl, .inl ⟨SqL.of (g1.keep _ _ (by simp) hlo6), fun t2 ht2 => ?_⟩⟩
    have g2 := Grow.new (m := []) ht2 (.tup us)
    refine ⟨_, rfl, ro, _, rfl, ((g1.trans g2).frT hro6).sqT, fun t3 ht3 => ?_⟩
    have g3 := Grow.new (m := []) ht3 (.tup (natsV ns).reverse)
    have Ga := g1.trans (g2.trans g3)
    have s1 : SqT K (upd (upd (upd H6 t1 (.tup vr)) t2 (.tup us)) t3 (.tup (natsV ns).reverse)) t1 vr := (g2.trans g3).sqT (SqT.of upd_same)
    have s2 : SqT K (upd (upd (upd H6 t1 (.tup vr)) t2 (.tup us)) t3 (.tup (natsV ns).reverse)) t2 us := g3.sqT (SqT.of upd_same)
    have s3 : SqT K (upd (upd (upd H6 t1 (.tup vr)) t2 (.tup us)) t3 (.tup (natsV ns).reverse)) t3 (natsV ns).reverse := SqT.of upd_same
    generalize upd (upd (upd H6 t1 (.tup vr)) t2 (.tup us)) t3 (.tup (natsV ns).reverse) = H7 at Ga s1 s2 s3 ⊢
    refine ⟨_, rfl, _, rfl, _, _, rfl, p, ns, rfl, pp6.grow Ga, ⟨ro, rfl, .inr (Ga.frT hro6).sqT⟩, hl, fun l4 ms4 H8 hp4 g8 pp8 n4 l4p h4 => ⟨l4, _, rfl, .inl ⟨SqL.of h4, fun t4 ht4 => ?_⟩⟩⟩
    have g9 := Grow.new (m := []) ht4 (.tup (natsV ms4))
    have hroA := g9.frT (g8.frT (Ga.frT hro6))
    refine ⟨_, rfl, ro, ns.map (fun k : Nat => (k : Int)), rfl, by rw [← natsV_ints72]; exact hroA.sqT, by rw [List.length_map]; omega, fun l5 ms5 hl5 hp5 _ => ⟨l5, _, rfl, .inl ⟨SqL.of upd_same, fun t5 ht5 => ⟨szl rfl, fun l7 hl7 => ?_⟩⟩⟩⟩
    have g10 := Grow.new (m := []) hl5 (.lst (ms5.map V.int))
    have g11 := Grow.new (m := []) ht5 (.tup (ms5.map V.int))
    have g12 := Grow.new (m := []) hl7 (.lst [V.ref ro, V.ref t1, V.ref t2, V.ref t3, V.ref t4, V.ref t5])
    have gt := g9.trans (g10.trans (g11.trans g12))
    have gb := g8.trans (gt.wk (m := [p]))
    have m5I : ∀ v ∈ ms5.map V.int, I72 v := fun v hv => by
      obtain ⟨z, hz, rfl⟩ := List.mem_map.mp hv
      obtain ⟨k, hk', rfl⟩ := List.mem_map.mp (hp5.mem_iff.mp hz)
      exact ⟨k, by have := hlt k hk'; omega, rfl⟩
    have l5' : (ms5.map V.int).length < 64 := by rw [List.length_map, hp5.length_eq, List.length_map]; omega
    refine hk _ _ ⟨l7, _, rfl, ⟨upd_same, ?_, pot_ne72 (pp8.grow (g9.trans (g10.trans g11))) hl7, Nat.le_refl _⟩, Ga.wk.trans gb, pp8.grow gt⟩
    refine g_cons (G72.tup (gb.frT (Ga.frT hro6)).sqT v64 nE) (g_cons (G72.tup (gb.sqT s1) (by omega) (i_e vrI)) (g_cons (G72.tup (gb.sqT s2) (by omega) (i_e uI)) (g_cons (G72.tup (gb.sqT s3) (by rw [List.length_reverse]; exact v64) fun v hv => nE v (List.mem_reverse.mp hv)) (g_cons (G72.tup ((g10.trans (g11.trans g12)).sqT (SqT.of upd_same)) (by rw [natsV_len, hp4.length_eq]; omega) (i_e (i_nats (nats_i hp4 hlt)))) (g_cons (G72.tup (g12.sqT (SqT.of upd_same)) l5' (i_e m5I)) g_nil)))))
  rintro _ H7 ⟨l7, xs7, rfl, S7, g7, pp7⟩
  have hro7 := g7.frT hro6
  have G7 := G6.trans g7
  clear g7 G6 hro6 hr6 pp6 hlo6
  refine ⟨_, rfl, _, rfl, _, rfl, ro, _, rfl, hro7.sqT, fun ta H8 g8 ha8 => ⟨_, rfl, _, rfl, _, _, rfl, rfl, _, rfl, ro, _, rfl, (g8.frT hro7).sqT, fun tb H9 g9 hb9 => ⟨_, _, rfl, ?_⟩⟩⟩
  have g89 := g8.trans g9
  have ha9 := g9.sqT ha8
  have hro9 := g89.frT hro7
  have S9 := S7.grow (g89.wk (m := [p]))
  have pp9 := pp7.grow g89
  have G9 := G7.trans (g89.wk (m := [p]))
  clear g8 g9 g89 ha8 hro7 S7 pp7 G7
  have aI : ∀ v ∈ cutV (natsV ns) none (some (i : Int)), I72 v := i_cut hI
  have bI : ∀ v ∈ cutV (natsV ns) (some ((i : Int) + 1)) none, I72 v := i_cut hI
  have al := cl1 none (some (i : Int))
  have bl := cl1 (some ((i : Int) + 1)) none
  have abl : (cutV (natsV ns) none (some (i : Int))).length + (cutV (natsV ns) (some ((i : Int) + 1)) none).length ≤ ns.length := by
    rw [show (i : Int) + 1 = ((i + 1 : Nat) : Int) from by omega, cut_pre, cut_suf, List.length_take, List.length_drop]; omega
  generalize cutV (natsV ns) none (some (i : Int)) = av at ha9 aI al abl
  generalize cutV (natsV ns) (some ((i : Int) + 1)) none = bv at hb9 bI bl abl
  try dsimp only
  have v40 : (natsV ns).length ≤ 40 := by omega
  clear al bl cl1
  refine c_asg (fun v H' => ∃ (l7 : Addr) (xs : List V), v = .ref l7 ∧ S72 K p H' l7 xs 10 ∧ Grow [p] H9 H' ∧ Pot H' p) (fun Kk hk => ⟨_, rfl, _, rfl, ro, _, rfl, .inr hro9.sqT, fun l1 hl1 nl1 => ?_⟩) ?_
  · have g1 := Grow.new (m := []) hl1 (.lst (natsV ns))
    have nl1p := pot_ne72 pp9 hl1
    have h1 : upd H9 l1 (.lst (natsV ns)) l1 = some (.lst (natsV ns)) := upd_same
    generalize upd H9 l1 (.lst (natsV ns)) = K1 at g1 h1 ⊢
    refine ⟨_, rfl, _, rfl, _, rfl, ro, _, rfl, (g1.frT hro9).sqT, fun p1 K2 g2 h2 => ⟨ro, p1, _, _, rfl, rfl, ((g1.trans g2).frT hro9).sqT, h2, ?_, fun p2 K3 g3 h3 => ?_⟩⟩
    · have := cutV_length (natsV ns) none (some 1); exact le72 (by omega)
    have Ga := g1.trans (g2.trans g3)
    refine ⟨_, rfl, _, rfl, ta, tb, _, _, rfl, rfl, Ga.sqT ha9, Ga.sqT hb9, le72 (by omega), fun p3 K4 g4 h4 => ?_⟩
    have Gb := Ga.trans g4
    refine ⟨_, rfl, _, rfl, _, rfl, _, rfl, _, rfl, _, _, rfl, rfl, _, rfl, ro, _, rfl, (Gb.frT hro9).sqT, fun p4 K5 g5 h5 => ⟨ta, p4, _, _, rfl, rfl, (Gb.trans g5).sqT ha9, h5, ?_, fun p5 K6 g6 h6 => ⟨_, rfl, p5, tb, _, _, rfl, rfl, h6, (Gb.trans (g5.trans g6)).sqT hb9, ?_, fun p6 K7 g7 h7 => ⟨szl rfl, fun l9 hl9 => ?_⟩⟩⟩⟩
    · have := cut_one72 (natsV ns) j; exact le72 (by omega)
    · have := cut_one72 (natsV ns) j; exact le72 (by rw [List.length_append]; omega)
    have g8 := Grow.new (m := []) hl9 (.lst [V.ref l1, V.ref p2, V.ref p3, V.ref p6])
    have Gc := Gb.trans (g5.trans (g6.trans (g7.trans g8)))
    have S8 := S9.grow (Gc.wk (m := [p]))
    refine ⟨l7, l9, _, _, rfl, rfl, S8.at_, upd_same, ?_, fun l10 hl10 => ?_⟩
    · have := S9.len; exact le72 (by show _ + 4 ≤ 5000; omega)
    have g9 := Grow.new (m := []) hl10 (.lst (xs7 ++ [V.ref l1, V.ref p2, V.ref p3, V.ref p6]))
    have Gd := Gc.trans g9
    have gq := g4.trans (g5.trans (g6.trans (g7.trans (g8.trans g9))))
    refine hk _ _ ⟨l10, _, rfl, ⟨upd_same, g_app (g_grow S8.gd g9.wk) (g_cons ?_ (g_cons ?_ (g_cons ?_ (g_cons ?_ g_nil)))), pot_ne72 (pp9.grow Gc) hl10, ?_⟩, Gd.wk, pp9.grow Gd⟩
    · exact G72.lst ((g2.trans (g3.trans gq)).keep _ _ (by simp) h1) nl1p nl1 v64 nE
    · refine G72.tup (gq.sqT h3) ?_ (i_e (i_app hI (i_cut hI)))
      have : (cutV (natsV ns) none (some 1)).length ≤ 1 := by rw [show (1 : Int) = ((1 : Nat) : Int) from rfl, cut_pre, List.length_take]; omega
      rw [List.length_append]; omega
    · exact G72.tup ((g5.trans (g6.trans (g7.trans (g8.trans g9)))).sqT h4) (by rw [List.length_append]; omega) (i_e (i_app aI bI))
    · refine G72.tup ((g8.trans g9).sqT h7) ?_ (i_e (i_app (i_app aI (i_cut hI)) bI))
      have := cut_one72 (natsV ns) j
      rw [List.length_append, List.length_append]; omega
    · have := S9.len; rw [List.length_append]; show _ + 4 ≤ 10; omega
  rintro _ H10 ⟨l10, xs10, rfl, S10, g10, pp10⟩
  have hro10 := g10.frT hro9
  have ha10 := g10.sqT ha9
  have hb10 := g10.sqT hb9
  have G10 := G9.trans g10
  clear S9 pp9 hro9 ha9 hb9 G9 g10
  have mE : ∀ {H' : Hp}, E72 K p H' (.int (ns.length : Int)) := E72.int ⟨by omega, by omega⟩
  have om : ∀ {H' : Hp}, Pot H' p → ∀ b ∈ [p], H' b ≠ none := fun pp b hb => by
    rw [List.mem_singleton.mp hb]
    obtain ⟨_, _, e, _⟩ := pp
    rw [e]; simp
  refine c_asg (fun v H' => ∃ (l7 : Addr) (xs : List V), v = .ref l7 ∧ S72 K p H' l7 xs 17 ∧ Grow [p] H10 H' ∧ Pot H' p) (fun Kk hk => ⟨_, rfl, _, rfl, _, rfl, szl rfl, fun t1 ht1 => ?_⟩) ?_
  · have g1 := Grow.new (m := []) ht1 (.tup [V.int ns.length])
    refine ⟨ta, t1, _, _, rfl, rfl, g1.sqT ha10, SqT.of upd_same, le72 (by show _ + 1 ≤ 5000; omega), fun p1 K2 g2 h2 => ⟨_, rfl, p1, tb, _, _, rfl, rfl, h2, (g1.trans g2).sqT hb10, le72 (by rw [List.length_append]; show _ + 1 + _ ≤ 5000; omega), fun p2 K3 g3 h3 => ?_⟩⟩
    have Ga := g1.trans (g2.trans g3)
    refine ⟨_, rfl, _, rfl, szl rfl, fun t2 ht2 => ?_⟩
    have g4 := Grow.new (m := []) ht2 (.tup [V.int (-1)])
    refine ⟨ta, t2, _, _, rfl, rfl, (Ga.trans g4).sqT ha10, SqT.of upd_same, le72 (by show _ + 1 ≤ 5000; omega), fun p3 K5 g5 h5 => ⟨_, rfl, p3, tb, _, _, rfl, rfl, h5, (Ga.trans (g4.trans g5)).sqT hb10, le72 (by rw [List.length_append]; show _ + 1 + _ ≤ 5000; omega), fun p4 K6 g6 h6 => ?_⟩⟩
    have Gb := Ga.trans (g4.trans (g5.trans g6))
    refine ⟨_, rfl, _, rfl, szl rfl, fun t3 ht3 => ?_⟩
    have g7 := Grow.new (m := []) ht3 (.tup [V.int ns.length])
    refine ⟨ro, t3, _, _, rfl, rfl, ((Gb.trans g7).frT hro10).sqT, SqT.of upd_same, le72 (by show _ + 1 ≤ 5000; omega), fun p5 K8 g8 h8 => ?_⟩
    have Gc := Gb.trans (g7.trans g8)
    refine ⟨[p], trivial, om (pp10.grow Gc), fun x1 K9 g9 o9 => ⟨szl rfl, fun l9 hl9 => ?_⟩⟩
    have g10' := Grow.new (m := []) hl9 (.lst [V.ref p2, V.ref p4, V.ref p5, V.non, V.int 0, V.str (Str.ofString ""), x1])
    have Gd := Gc.trans (g9.trans g10')
    have S8 := S10.grow (Gd.wk (m := [p]))
    refine ⟨l10, l9, _, _, rfl, rfl, S8.at_, upd_same, ?_, fun l11 hl11 => ?_⟩
    · have := S10.len; exact le72 (by show _ + 7 ≤ 5000; omega)
    have g11 := Grow.new (m := []) hl11 (.lst (xs10 ++ [V.ref p2, V.ref p4, V.ref p5, V.non, V.int 0, V.str (Str.ofString ""), x1]))
    have Ge := Gd.trans g11
    have gq := g9.trans (g10'.trans g11)
    refine hk _ _ ⟨l11, _, rfl, ⟨upd_same, g_app (g_grow S8.gd g11.wk) (g_cons ?_ (g_cons ?_ (g_cons ?_ (g_cons (G72.of_e E72.non (fun _ z => nomatch z)) (g_cons (G72.of_e (E72.int (by decide)) (fun _ z => nomatch z)) (g_cons G72.str0 (g_cons (G72.dict0 (o9.grow (g10'.trans g11).wk)) g_nil))))))), pot_ne72 (pp10.grow Gd) hl11, ?_⟩, Ge.wk, pp10.grow Ge⟩
    · exact G72.tup ((g4.trans (g5.trans (g6.trans (g7.trans (g8.trans gq))))).sqT h3) (by rw [List.length_append, List.length_append]; show _ + 1 + _ < 64; omega) (e_app (e_app (i_e aI) (e_one mE)) (i_e bI))
    · exact G72.tup ((g7.trans (g8.trans gq)).sqT h6) (by rw [List.length_append, List.length_append]; show _ + 1 + _ < 64; omega) (e_app (e_app (i_e aI) (e_one (E72.int (by decide)))) (i_e bI))
    · exact G72.tup (gq.sqT h8) (by rw [List.length_append]; show _ + 1 < 64; omega) (e_app nE (e_one mE))
    · have := S10.len; rw [List.length_append]; show _ + 7 ≤ 17; omega
  rintro _ H11 ⟨l11, xs11, rfl, S11, g11, pp11⟩
  have hro11 := g11.frT hro10
  have ha11 := g11.sqT ha10
  have hb11 := g11.sqT hb10
  have G11 := G10.trans g11
  clear S10 pp10 hro10 ha10 hb10 G10 g11
  have small : ∀ {k : Nat} {n : Nat}, ns[n]? = some k → k < 40 := fun h => hlt _ (List.mem_of_getElem? h)
  refine c_asg (fun v H' => ∃ (l7 : Addr) (xs : List V), v = .ref l7 ∧ S72 K p H' l7 xs 20 ∧ Grow [p] H11 H' ∧ Pot H' p) (fun Kk hk => ⟨_, rfl, _, rfl, ro, rfl, ⟨_, hro11.sqT⟩, comp_tupP72 (xs := natsV ns) (fun n ys H' => ys.length = n ∧ (∀ v ∈ ys, E72 K p H' v) ∧ Grow [] H11 H') ⟨rfl, (fun _ h => nomatch h), Grow.refl _ _⟩ (fun n ys H' ⟨_, _, g⟩ => (g.frT hro11).sqT) ?_ ?_⟩) ?_
  · rintro n x ys H' hx ⟨yl, yE, g⟩
    obtain ⟨k, hki, rfl⟩ := natsV_at72 hx
    have hn := (List.getElem?_eq_some_iff.mp hki).1
    have k40 := small hki
    refine ⟨_, rfl, _, rfl, rfl, szl rfl, fun l hl0 => ⟨_, rfl, _, _, rfl, rfl, .inr ⟨_, rfl, ?_⟩⟩⟩
    have gl := Grow.new (m := []) hl0 (.lst [V.int k, V.bl (decide (V.int (k : Int) = V.int 1))])
    by_cases k2 : (k : Int) < 2
    · refine ⟨l, _, 1, _, rfl, by rw [decide_eq_true k2]; rfl, SqL.of upd_same, atI_nat (j := 1) rfl, lt72 (by omega), by rw [List.length_append, List.length_singleton, yl], fun v hv => ?_, g.trans gl⟩
      rcases List.mem_append.mp hv with hv | hv
      · exact (yE v hv).grow gl.wk
      · rw [List.mem_singleton.mp hv]; exact E72.bl _
    · refine ⟨l, _, 0, _, rfl, by rw [decide_eq_false k2]; rfl, SqL.of upd_same, atI_nat (j := 0) rfl, lt72 (by omega), by rw [List.length_append, List.length_singleton, yl], fun v hv => ?_, g.trans gl⟩
      rcases List.mem_append.mp hv with hv | hv
      · exact (yE v hv).grow gl.wk
      · rw [List.mem_singleton.mp hv]; exact E72.int ⟨by omega, by omega⟩
  · rintro ys K1 ⟨yl, yE, g1⟩ l1 hl1
    refine ⟨l1, _, rfl, .inl ⟨SqL.of upd_same, fun t1 ht1 => ?_⟩⟩
    have g2 := (Grow.new (m := []) hl1 (.lst ys)).trans (Grow.new ht1 (.tup ys))
    have s1 : SqT K (upd (upd K1 l1 (.lst ys)) t1 (.tup ys)) t1 ys := SqT.of upd_same
    generalize upd (upd K1 l1 (.lst ys)) t1 (.tup ys) = K2 at g2 s1 ⊢
    have hroA := (g1.trans g2).frT hro11
    refine ⟨_, rfl, ro, rfl, ⟨_, hroA.sqT⟩, comp_tupP72 (xs := natsV ns) (fun n zs H' => zs.length = n ∧ (∀ v ∈ zs, E72 K p H' v) ∧ H' = K2) ⟨rfl, (fun _ h => nomatch h), rfl⟩ (fun n zs H' ⟨_, _, e⟩ => by rw [e]; exact hroA.sqT) ?_ ?_⟩
    · rintro n x zs H' hx ⟨zl, zE, rfl⟩
      obtain ⟨k, hki, rfl⟩ := natsV_at72 hx
      have hn := (List.getElem?_eq_some_iff.mp hki).1
      have k40 := small hki
      have lg : ((k : Int)).natAbs.log2 < 1920 := by
        rw [Int.natAbs_natCast]
        by_cases h0 : k = 0
        · rw [h0]; decide
        · exact (Nat.log2_lt h0).mpr (Nat.lt_trans k40 (by decide))
      refine ⟨_, rfl, _, rfl, lg, lt72 (by omega), by rw [List.length_append, List.length_singleton, zl], fun v hv => ?_, rfl⟩
      rcases List.mem_append.mp hv with hv | hv
      · exact zE v hv
      · rw [List.mem_singleton.mp hv]; exact E72.num (by omega)
    · rintro zs K3 ⟨zl, zE, rfl⟩ l2 hl2
      refine ⟨l2, _, rfl, .inl ⟨SqL.of upd_same, fun t2 ht2 => ⟨_, rfl, szl rfl, fun t3 ht3 => ⟨szl rfl, fun l9 hl9 => ?_⟩⟩⟩⟩
      have g3 := Grow.new (m := []) hl2 (.lst zs)
      have g4 := Grow.new (m := []) ht2 (.tup zs)
      have g5 := Grow.new (m := []) ht3 (.tup [V.ref ro])
      have g6 := Grow.new (m := []) hl9 (.lst [V.ref t1, V.ref t2, V.ref t3])
      have gA := g3.trans (g4.trans (g5.trans g6))
      have GA := g1.trans (g2.trans gA)
      have S8 := S11.grow (GA.wk (m := [p]))
      refine ⟨l11, l9, _, _, rfl, rfl, S8.at_, upd_same, ?_, fun l12 hl12 => ?_⟩
      · have := S11.len; exact le72 (by show _ + 3 ≤ 5000; omega)
      have g7 := Grow.new (m := []) hl12 (.lst (xs11 ++ [V.ref t1, V.ref t2, V.ref t3]))
      refine hk _ _ ⟨l12, _, rfl, ⟨upd_same, g_app (g_grow S8.gd g7.wk) (g_cons ?_ (g_cons ?_ (g_cons ?_ g_nil))), pot_ne72 (pp11.grow GA) hl12, ?_⟩, (GA.trans g7).wk, pp11.grow (GA.trans g7)⟩
      · exact G72.tup ((gA.trans g7).sqT s1) (by omega) fun v hv => (yE v hv).grow (g2.trans (gA.trans g7)).wk
      · exact G72.tup ((g5.trans (g6.trans g7)).sqT (SqT.of upd_same)) (by omega) fun v hv => (zE v hv).grow (gA.trans g7).wk
      · exact G72.one ((g6.trans g7).sqT (SqT.of upd_same)) ((GA.trans g7).frT hro11).sqT v64 nE
      · have := S11.len; rw [List.length_append]; show _ + 3 ≤ 20; omega
  rintro _ H12 ⟨l12, xs12, rfl, S12, g12, pp12⟩
  have hro12 := g12.frT hro11
  have ha12 := g12.sqT ha11
  have hb12 := g12.sqT hb11
  have G12 := G11.trans g12
  clear S11 pp11 hro11 ha11 hb11 G11 g12
  refine ⟨_, rfl, _, rfl, szl rfl, fun t1 ht1 => ?_⟩
  have g1 := Grow.new (m := []) ht1 (.tup [V.non])
  refine ⟨ta, t1, _, _, rfl, rfl, g1.sqT ha12, SqT.of upd_same, le72 (by show _ + 1 ≤ 5000; omega), fun p1 K2 g2 h2 => ⟨_, rfl, p1, tb, _, _, rfl, rfl, h2, (g1.trans g2).sqT hb12, le72 (by rw [List.length_append]; show _ + 1 + _ ≤ 5000; omega), fun p2 K3 g3 h3 => ?_⟩⟩
  have Ga := g1.trans (g2.trans g3)
  refine ⟨szl rfl, fun l2 hl2 nl2 => ⟨szl rfl, fun t3 ht3 => ?_⟩⟩
  have nl2p := pot_ne72 (pp12.grow Ga) hl2
  have g4 := Grow.new (m := []) hl2 (.lst [])
  have g5 := Grow.new (m := []) ht3 (.tup [V.int 0])
  have s2 : upd (upd K3 l2 (.lst [])) t3 (.tup [V.int 0]) l2 = some (.lst []) := g5.keep _ _ (by simp) upd_same
  have s3 : SqT K (upd (upd K3 l2 (.lst [])) t3 (.tup [V.int 0])) t3 [V.int 0] := SqT.of upd_same
  have Gb := Ga.trans (g4.trans g5)
  have h3' := (g4.trans g5).sqT h3
  generalize upd (upd K3 l2 (.lst [])) t3 (.tup [V.int 0]) = K5 at Gb h3' s2 s3 ⊢
  have hroB := Gb.frT hro12
  have ppB := pp12.grow Gb
  refine ⟨_, rfl, ro, rfl, ⟨_, hroB.sqT⟩, comp_tupP72 (xs := natsV ns) (fun n ys H' => ys.length = n ∧ (∀ v ∈ ys, E72 K p H' v) ∧ Grow [] K5 H') ⟨rfl, (fun _ h => nomatch h), Grow.refl _ _⟩ (fun n ys H' ⟨_, _, g⟩ => (g.frT hroB).sqT) ?_ ?_⟩
  · rintro n x ys H' hx ⟨yl, yE, g⟩
    obtain ⟨k, hki, rfl⟩ := natsV_at72 hx
    have hn := (List.getElem?_eq_some_iff.mp hki).1
    have k40 := small hki
    refine ⟨_, rfl, szl rfl, fun l hl0 nl0 => ⟨lt72 (by omega), by rw [List.length_append, List.length_singleton, yl], fun v hv => ?_, g.trans (Grow.new hl0 _)⟩⟩
    rcases List.mem_append.mp hv with hv | hv
    · exact (yE v hv).grow (Grow.new (m := []) hl0 _).wk
    · rw [List.mem_singleton.mp hv]
      exact E72.lst1 upd_same (pot_ne72 (ppB.grow g) hl0) nl0 ⟨by omega, by omega⟩
  · rintro ys K6 ⟨yl, yE, g6⟩ l3 hl3
    refine ⟨l3, _, rfl, .inl ⟨SqL.of upd_same, fun t4 ht4 => ⟨szl rfl, fun l9 hl9 => ?_⟩⟩⟩
    have g7 := Grow.new (m := []) hl3 (.lst ys)
    have g8 := Grow.new (m := []) ht4 (.tup ys)
    have g9 := Grow.new (m := []) hl9 (.lst [V.ref p2, V.ref l2, V.ref t3, V.ref t4])
    have gA := g6.trans (g7.trans (g8.trans g9))
    have GA := Gb.trans gA
    have S8 := S12.grow (GA.wk (m := [p]))
    refine ⟨l12, l9, _, _, rfl, rfl, S8.at_, upd_same, ?_, fun l13 hl13 nl13 => ?_⟩
    · have := S12.len; exact le72 (by show _ + 4 ≤ 5000; omega)
    have g10 := Grow.new (m := []) hl13 (.lst (xs12 ++ [V.ref p2, V.ref l2, V.ref t3, V.ref t4]))
    refine q l13 _ _ (G12.trans (GA.trans g10).wk) (pp12.grow (GA.trans g10)) upd_same (pot_ne72 (pp12.grow GA) hl13) nl13 (g_app (g_grow S8.gd g10.wk) (g_cons ?_ (g_cons ?_ (g_cons ?_ (g_cons ?_ g_nil))))) ?_
    · exact G72.tup ((gA.trans g10).sqT h3') (by rw [List.length_append, List.length_append]; show _ + 1 + _ < 64; omega) (e_app (e_app (i_e aI) (e_one E72.non)) (i_e bI))
    · exact G72.lst ((gA.trans g10).keep _ _ (by simp) s2) nl2p nl2 (by decide) fun _ h => nomatch h
    · exact G72.tup ((gA.trans g10).sqT s3) (by decide) (e_one (E72.int (by decide)))
    · exact G72.tup ((g9.trans g10).sqT (SqT.of upd_same)) (by omega) fun v hv => (yE v hv).grow (g7.trans (g8.trans (g9.trans g10))).wk
    · have := S12.len; rw [List.length_append]; show _ + 4 ≤ 30; omega
theorem sc__law_mixed : FnScope ["_law_pot_here", "_law_some", "_law_places", "_law_calls"] ["_law_pot_here", "_law_some"] (defScope (top 39)) := ⟨rfl, rfl, rfl, by decide +kernel, rfl, by decide +kernel, by decide +kernel⟩
set_option maxHeartbeats 0 in
theorem ok__law_mixed {n : Nat} {f : Addr} {fd : FuncData} (F : Fun K "_law_mixed" "_law_mixed" (top 39) f fd) (B : Blt mg) (c__law_shuffled : Callee P w K mg base n "_law_shuffled" ["_law_pot_here", "_law_row"] (sp_shuf72 K))    :
    FnOk P w K mg base CX0 (n + 1) f fd ["_law_pot_here", "_law_some"] (sp_mixed72 K) := by
  refine F.ok sc__law_mixed sp2_len (fun cdv A outer s H vs Q E hr h => ?_)
  obtain ⟨x, y, rfl, p, l, xs, cs, rfl, rfl, pp, hl, lp, ha, h40, q⟩ := h
  refine ⟨_, (pss_cons (ps_set (i := 2) sc__law_mixed.nd rfl (Or.inr rfl) (pe_callC c__law_shuffled hr rfl (pa_cons (pv 0) (pa_cons (pe_listRange rfl rfl B.list rfl B.range (pa_cons (pe_callB call_len_seq rfl B.len b_len (pa_cons (pv 1) pa_nil)) pa_nil)) pa_nil)))) (pss_cons (ps_set (i := 3) sc__law_mixed.nd rfl (Or.inl rfl) (pe_callTy call_tuple_of rfl B.tuple b_tuple (pa_cons (pe_compT (CSc.of (N' := ["_law_j", "_law_some"]) (sub := [none, some 1]) (defScope (top 39)) ["_law_pot_here", "_law_some", "_law_places", "_law_calls"] rfl rfl (by decide +kernel) rfl) rfl (pi_list (pv 2)) (fun _ _ _ _ _ _ => pg_name (i := 0) (show (["_law_j", "_law_some"] : List Str).Nodup by decide +kernel) rfl (Or.inl rfl)) (fun _ _ _ _ _ _ => pifs_nil) (fun _ _ _ _ _ _ => (pe_ix (ix_listK (K := K) rfl) (pv 1) (pv 0) (fun _ _ => rfl)))) pa_nil))) (pss_one (ps_ret (pe_tup (pa_cons (pv 3) (pa_cons (pe_callTy call_tupleF rfl B.tuple b_tuple (pa_cons (pe_compT (CSc.of (N' := ["_law_j", "_law_places"]) (sub := [none, some 2]) (defScope (top 39)) ["_law_pot_here", "_law_some", "_law_places", "_law_calls"] rfl rfl (by decide +kernel) rfl) rfl (pi_range1 rfl B.range (pa_cons (pe_callB call_len_seq rfl B.len b_len (pa_cons (pv 1) pa_nil)) pa_nil)) (fun _ _ _ _ _ _ => pg_name (i := 0) (show (["_law_j", "_law_places"] : List Str).Nodup by decide +kernel) rfl (Or.inl rfl)) (fun _ _ _ _ _ _ => pifs_nil) (fun _ _ _ _ _ _ => (pe_bmK (K := K) rfl PySem.F.plainAttrs_list PySem.F.slot_list_index PySem.F.type_list_index (mt_index (K := K) rfl) (pv 1) (pa_cons (pv 0) pa_nil)))) pa_nil)) pa_nil))))))), ?_⟩
  have xl := ha.len
  refine c_asg (fun v H' => ∃ (l2 : Addr) (ms : List Nat), v = .ref l2 ∧ ms.Perm (List.range cs.length) ∧ H' l2 = some (.lst (natsV ms)) ∧ l2 ≠ p ∧ Grow [p] H H' ∧ Pot H' p) (fun Kk hk => ⟨_, rfl, _, rfl, l, _, rfl, .inl (SqL.of hl), xs.length, rfl, by omega, fun l1 hl1 => ⟨_, _, rfl, p, List.range xs.length, rfl, pp.grow (Grow.new hl1 _), ⟨l1, rfl, .inl (SqL.of upd_same)⟩, by rw [List.length_range]; omega, fun l2 ms H2 hp g2 pp2 _ l2p h2 => hk _ _ ⟨l2, ms, rfl, by rw [← xl]; exact hp, h2, l2p, (Grow.new hl1 _).trans g2, pp2⟩⟩⟩) ?_
  rintro _ H1 ⟨l2, ms, rfl, hp, h2, l2p, g1, pp1⟩
  have ml : ms.length = cs.length := by rw [hp.length_eq, List.length_range]
  have hlt : ∀ k ∈ ms, k < cs.length := fun k hk => List.mem_range.mp (hp.mem_iff.mp hk)
  have hl1 := g1.keep _ _ (by simpa using lp) hl
  have ha1 := g1.callsR ha
  refine c_asg (fun v H' => CallsAt72 K H' v (ms.map (cg cs)) ∧ Grow [] H1 H') (fun Kk hk => ⟨_, rfl, l2, rfl, ⟨_, SqL.of h2⟩, comp_listP (xs := natsV ms) (fun i ys H' => H' = H1 ∧ AllR (CallAt72 K H1) ys ((ms.take i).map (cg cs)) ∧ ys.length = i) ⟨rfl, trivial, rfl⟩ (fun i ys H' z => by rw [z.1]; exact SqL.of h2) ?_ ?_⟩) ?_
  · rintro i x ys H' hx ⟨rfl, hA, yl⟩
    obtain ⟨k, hki, rfl⟩ := natsV_at72 hx
    have hi := (List.getElem?_eq_some_iff.mp hki).1
    have hk' := hlt k (List.mem_of_getElem? hki)
    obtain ⟨z, hz, hc⟩ := ha1.getR (List.getElem?_eq_getElem hk')
    refine ⟨_, rfl, _, rfl, l, _, _, z, rfl, rfl, SqL.of hl1, atI_nat hz, lt72 (by omega), rfl, ?_, by rw [List.length_append, List.length_singleton, yl]⟩
    rw [List.take_succ, hki, List.map_append]
    refine hA.app ⟨?_, trivial⟩
    rw [cg_get (List.getElem?_eq_getElem hk')]; exact hc
  · rintro ys H' ⟨rfl, hA, yl⟩ l3 hl3
    rw [natsV_len, List.take_length] at hA
    refine ⟨l3, _, rfl, .inl ⟨SqL.of upd_same, fun t ht => hk _ _ ⟨⟨t, ys, rfl, SqT.of upd_same, ?_⟩, (Grow.new hl3 _).trans (Grow.new ht _)⟩⟩⟩
    exact ((Grow.new (m := []) hl3 _).trans (Grow.new ht _)).callsR hA
  rintro yc H2 ⟨hc2, g2⟩
  have h22 := g2.keep _ _ (by simp) h2
  have hl2 := g2.keep _ _ (by simp) hl1
  refine ⟨_, rfl, _, rfl, l, _, rfl, .inl (SqL.of hl2), _, rfl, by omega, by omega, comp_rng (fun i ys H' => H' = H2 ∧ ys = natsV ((List.range i).map fun j => ms.idxOf j)) ⟨rfl, rfl⟩ ?_ ?_⟩
  · rintro i ys H' hi ⟨rfl, rfl⟩
    have hi' : i < cs.length := by omega
    have hm : i ∈ ms := hp.mem_iff.mpr (List.mem_range.mpr hi')
    refine ⟨_, rfl, .inl ⟨rfl, _, SqL.of h22⟩, _, rfl, l2, ms, i, rfl, by rw [Int.zero_add], SqL.of h22, hm, by omega, lt72 (by rw [natsV_len, List.length_map, List.length_range]; omega), rfl, ?_⟩
    rw [List.range_succ, List.map_append, natsV_app]; rfl
  · rintro ys H' ⟨rfl, rfl⟩ l5 hl5
    have en : ((xs.length : Nat) : Int).toNat = cs.length := by omega
    rw [en]
    refine ⟨l5, _, rfl, SqL.of upd_same, fun ro o hro oc od => ⟨szl rfl, fun r hr0 => ?_⟩⟩
    have g5 := Grow.new (m := []) hl5 (.lst (natsV ((List.range cs.length).map fun j => ms.idxOf j)))
    have g6 := Grow.new (m := []) hro (.frz o (.tup (natsV ((List.range cs.length).map fun j => ms.idxOf j))))
    have g7 := Grow.new (m := []) hr0 (.tup [yc, .ref ro])
    have G := g5.trans (g6.trans g7)
    exact q ms r ro yc _ hp (g1.trans (g2.wk.trans G.wk)) ((pp1.grow g2).grow G) (SqT.of upd_same) (G.calls72 hc2) (g7.frT ⟨o, upd_same, oc, od⟩)
theorem sc__law_times : FnScope ["_law_pot_here", "_law_moment", "_law_scale", "_law_begun"] ["_law_pot_here", "_law_moment", "_law_scale"] (defScope (top 37)) := ⟨rfl, rfl, rfl, by decide +kernel, rfl, by decide +kernel, by decide +kernel⟩
set_option maxHeartbeats 0 in
theorem ok__law_times {n : Nat} {f : Addr} {fd : FuncData} (F : Fun K "_law_times" "_law_times" (top 37) f fd) (B : Blt mg) (c__law_take : Callee P w K mg base n "_law_take" ["_law_pot_here", "_law_many"] (sp_take K))    :
    FnOk P w K mg base CX0 (n + 1) f fd ["_law_pot_here", "_law_moment", "_law_scale"] (sp_times72 K) := by
  refine F.ok sc__law_times sp3_len (fun cdv A outer s H vs Q E hr h => ?_)
  obtain ⟨x, y, z, rfl, p, mo, sc, rfl, rfl, rfl, pp, m0, m1, s0, s1, q⟩ := h
  refine ⟨_, (pss_cons (ps_set (i := 3) sc__law_times.nd rfl (Or.inl rfl) (pe_callB (call_max2 rfl) rfl B.max b_max (pa_cons pe_int (pa_cons (pe_op op_sub (pv 1) (pe_callC c__law_take hr rfl (pa_cons (pv 0) (pa_cons pe_int pa_nil)))) pa_nil)))) (pss_one (ps_ret (pe_tup (pa_cons (pe_op op_mulG (pv 3) (pv 2)) (pa_cons (pe_op op_mulG (pe_op op_add (pv 1) (pe_callC c__law_take hr rfl (pa_cons (pv 0) (pa_cons pe_int pa_nil)))) (pv 2)) pa_nil)))))), ?_⟩
  refine c_asg (fun v H' => ∃ be : Int, v = .int be ∧ 0 ≤ be ∧ be ≤ mo ∧ Grow [p] H H' ∧ Pot H' p) (fun Kk hk => ⟨_, rfl, _, rfl, _, _, rfl, p, 4, rfl, rfl, pp, by decide, by decide, fun n H' n0 n1 g pp' => ⟨_, _, rfl, rfl, _, _, rfl, hk _ _ ⟨_, rfl, by split <;> omega, by split <;> omega, g, pp'⟩⟩⟩) ?_
  rintro _ H1 ⟨be, rfl, b0, b1, g1, pp1⟩
  have bs : be * sc ≤ mo * sc := Int.mul_le_mul_of_nonneg_right b1 (by omega)
  have bs0 : 0 ≤ be * sc := Int.mul_nonneg b0 (by omega)
  refine ⟨_, rfl, _, rfl, _, _, rfl, rfl, mulOkL ⟨by omega, by omega⟩, _, rfl, _, rfl, _, _, rfl, p, 4, rfl, rfl, pp1, by decide, by decide, fun n H2 n0 n1 g2 pp2 => ⟨_, _, rfl, rfl, _, rfl, _, _, rfl, rfl, mulOkL ⟨by omega, by omega⟩, szl rfl, fun r hr => ?_⟩⟩
  exact q _ _ r _ bs0 bs (Int.mul_le_mul_of_nonneg_right (by omega) (by omega)) (Int.mul_le_mul_of_nonneg_right (by omega) (by omega)) (g1.trans (g2.trans (Grow.new hr _))) (pp2.grow (Grow.new hr _)) (SqT.of upd_same)
theorem sc__law_number : FnScope ["_law_pot_here", "_law_wide"] ["_law_pot_here", "_law_wide"] (defScope (top 34)) := ⟨rfl, rfl, rfl, by decide +kernel, rfl, by decide +kernel, by decide +kernel⟩
set_option maxHeartbeats 0 in
theorem ok__law_number {n : Nat} {f : Addr} {fd : FuncData} (F : Fun K "_law_number" "_law_number" (top 34) f fd) (B : Blt mg) (c__law_take : Callee P w K mg base n "_law_take" ["_law_pot_here", "_law_many"] (sp_take K))    :
    FnOk P w K mg base CX0 (n + 1) f fd ["_law_pot_here", "_law_wide"] (sp_num72 K) := by
  refine F.ok sc__law_number sp2_len (fun cdv A outer s H vs Q E hr h => ?_)
  obtain ⟨x, y, rfl, p, b, rfl, rfl, pp, q⟩ := h
  refine ⟨_, (pss_cons (ps_if (PW.pt (pw_and (pt_val (pv 1)) (pw_and1 (pt_cmpR op_eq (pe_callC c__law_take hr rfl (pa_cons (pv 0) (pa_cons pe_int pa_nil))) pe_int (nomark _))))) (pss_one (ps_ret (pe_op op_mulG (pe_op op_sub pe_int (pe_op op_mulG pe_int (pe_callC c__law_take hr rfl (pa_cons (pv 0) (pa_cons pe_int pa_nil))))) (pe_callC c__law_take hr rfl (pa_cons (pv 0) (pa_cons (pe_op op_pow pe_int pe_int) pa_nil)))))) pss_nil) (pss_one (ps_ret (pe_op op_sub (pe_callC c__law_take hr rfl (pa_cons (pv 0) (pa_cons pe_int pa_nil))) pe_int)))), ?_⟩
  refine c_test (fun b H' => Grow [p] H H' ∧ Pot H' p) (fun Kk hk => ⟨_, rfl, _, rfl, ?_⟩) ?_
  · cases b with
    | false => exact iteF (hk _ _ ⟨Grow.refl _ _, pp⟩)
    | true => exact iteT ⟨_, rfl, _, _, rfl, p, 3, rfl, rfl, pp, by decide, by decide, fun n H' n0 n1 g pp' => ⟨rfl, _, rfl, hk _ _ ⟨g, pp'⟩⟩⟩
  rintro b1 H1 ⟨g1, pp1⟩
  cases b1 with
  | true =>
    refine iteT ⟨_, rfl, _, _, rfl, p, 2, rfl, rfl, pp1, by decide, by decide, fun n H2 n0 n1 g2 pp2 => ⟨_, _, rfl, rfl, mulOkL ⟨by decide, by decide⟩, _, _, rfl, rfl, _, rfl, _, _, rfl, rfl, ⟨by decide, by decide, by decide⟩, _, _, rfl, p, _, rfl, rfl, pp2, by decide, by decide, fun k H3 k0 k1 g3 pp3 => ⟨_, _, rfl, rfl, mulOkL ⟨by omega, by omega⟩, ?_⟩⟩⟩
    refine q _ _ ?_ (g1.trans (g2.trans g3)) pp3
    have k1' : k < 10 ^ 27 := k1
    have : n = 0 ∨ n = 1 := by omega
    unfold N27
    rcases this with rfl | rfl <;> omega
  | false =>
    refine iteF (c_next ⟨_, rfl, _, _, rfl, p, 7, rfl, rfl, pp1, by decide, by decide, fun n H2 n0 n1 g2 pp2 => ⟨_, _, rfl, rfl, q _ _ ?_ (g1.trans g2) pp2⟩⟩)
    unfold N27; omega
theorem sc__law_deed : FnScope ["_law_pot_here", "_law_wide", "_law_add", "_law_choice", "_law_low"] ["_law_pot_here", "_law_wide"] (defScope (top 35)) := ⟨rfl, rfl, rfl, by decide +kernel, rfl, by decide +kernel, by decide +kernel⟩
set_option maxHeartbeats 0 in
theorem ok__law_deed {n : Nat} {f : Addr} {fd : FuncData} (F : Fun K "_law_deed" "_law_deed" (top 35) f fd) (B : Blt mg) (c__law_take : Callee P w K mg base n "_law_take" ["_law_pot_here", "_law_many"] (sp_take K)) (c__law_number : Callee P w K mg base n "_law_number" ["_law_pot_here", "_law_wide"] (sp_num72 K))    :
    FnOk P w K mg base CX0 (n + 1) f fd ["_law_pot_here", "_law_wide"] (sp_deed72 K) := by
  refine F.ok sc__law_deed sp2_len (fun cdv A outer s H vs Q E hr h => ?_)
  obtain ⟨x, y, rfl, p, b, rfl, rfl, pp, q⟩ := h
  refine ⟨_, (pss_cons (ps_set (i := 2) sc__law_deed.nd rfl (Or.inl rfl) (pe_callC c__law_number hr rfl (pa_cons (pv 0) (pa_cons (pv 1) pa_nil)))) (pss_cons (ps_set (i := 3) sc__law_deed.nd rfl (Or.inl rfl) (pe_callC c__law_take hr rfl (pa_cons (pv 0) (pa_cons pe_int pa_nil)))) (pss_cons (ps_if (pt_cmpR op_lt (pv 3) pe_int (nomark _)) (pss_one (ps_ret (pe_ix ix_list (pe_lst (pa_cons (pe_tup (pa_cons pe_int (pa_cons pe_non (pa_cons pe_non pa_nil)))) (pa_cons (pe_tup (pa_cons (pv 2) (pa_cons pe_non (pa_cons pe_non pa_nil)))) pa_nil))) (pv 3) (fun _ _ => rfl)))) pss_nil) (pss_cons (ps_set (i := 4) sc__law_deed.nd rfl (Or.inl rfl) (pe_callC c__law_number hr rfl (pa_cons (pv 0) (pa_cons (pv 1) pa_nil)))) (pss_cons (ps_if (pt_cmpR op_eq (pv 3) pe_int (nomark _)) (pss_one (ps_ret (pe_tup (pa_cons pe_int (pa_cons (pv 4) (pa_cons (pv 4) pa_nil)))))) pss_nil) (pss_cons (ps_if (pt_cmpR op_lt (pv 3) pe_int (nomark _)) (pss_one (ps_ret (pe_ix ix_list (pe_lst (pa_cons (pe_tup (pa_cons (pv 2) (pa_cons (pv 4) (pa_cons pe_non pa_nil)))) (pa_cons (pe_tup (pa_cons (pv 2) (pa_cons pe_non (pa_cons (pv 4) pa_nil)))) pa_nil))) (pe_op op_sub (pv 3) pe_int) (fun _ _ => rfl)))) pss_nil) (pss_one (ps_ret (pe_tup (pa_cons (pv 2) (pa_cons (pv 4) (pa_cons (pe_op op_add (pe_op op_add (pv 4) pe_int) (pe_callC c__law_take hr rfl (pa_cons (pv 0) (pa_cons pe_int pa_nil)))) pa_nil)))))))))))), ?_⟩
  have Bd3 : ∀ {ad : Int} {lo hi : Option Int}, N27 ad → (∀ l, lo = some l → N27 l) → (∀ u, hi = some u → -(10 ^ 27) ≤ u ∧ u ≤ 10 ^ 27 + 6) → (⟨ad, lo, hi⟩ : Deed).Bd (10 ^ 27 + 6) := fun {ad lo hi} h1 h2 h3 => by
    refine ⟨?_, fun l hl => ?_, fun u hu => ?_⟩
    · have := h1.1; have := h1.2; show -(10 ^ 27 + 6) ≤ ad ∧ ad ≤ 10 ^ 27 + 6; omega
    · have := (h2 l hl).1; have := (h2 l hl).2; exact ⟨by omega, by omega⟩
    · have := h3 u hu; exact ⟨by omega, by omega⟩
  have n27 : N27 0 := ⟨by decide, by decide⟩
  refine c_asg (fun v H' => ∃ ad : Int, v = .int ad ∧ N27 ad ∧ Grow [p] H H' ∧ Pot H' p) (fun Kk hk => ⟨_, rfl, _, rfl, _, _, rfl, p, b, rfl, rfl, pp, fun n H' hn g pp' => hk _ _ ⟨n, rfl, hn, g, pp'⟩⟩) ?_
  rintro _ H1 ⟨ad, rfl, had, g1, pp1⟩
  refine c_asg (fun v H' => ∃ k : Int, v = .int k ∧ 0 ≤ k ∧ k < 6 ∧ Grow [p] H1 H' ∧ Pot H' p) (fun Kk hk => ⟨_, rfl, _, _, rfl, p, 6, rfl, rfl, pp1, by decide, by decide, fun n H' n0 n1 g pp' => hk _ _ ⟨n, rfl, n0, n1, g, pp'⟩⟩) ?_
  rintro _ H2 ⟨k, rfl, k0, k6, g2, pp2⟩
  have G2 := g1.trans g2
  refine ⟨_, rfl, _, _, rfl, rfl, _, rfl, ?_⟩
  by_cases hk2 : k < 2
  · refine iteT' (decide_eq_true hk2) ⟨szl rfl, fun t1 ht1 => ⟨_, rfl, szl rfl, fun t2 ht2 => ⟨szl rfl, fun l hl => ?_⟩⟩⟩
    have gl := (Grow.new (m := []) ht1 (.tup [.int 0, .non, .non])).trans ((Grow.new ht2 (.tup [.int ad, .non, .non])).trans (Grow.new hl (.lst [.ref t1, .ref t2])))
    have s1 : SqT K (upd (upd (upd H2 t1 (.tup [.int 0, .non, .non])) t2 (.tup [.int ad, .non, .non])) l (.lst [.ref t1, .ref t2])) t1 (⟨0, none, none⟩ : Deed).vs := ((Grow.new (m := []) ht2 _).trans (Grow.new hl _)).sqT (SqT.of upd_same)
    have s2 : SqT K (upd (upd (upd H2 t1 (.tup [.int 0, .non, .non])) t2 (.tup [.int ad, .non, .non])) l (.lst [.ref t1, .ref t2])) t2 (⟨ad, none, none⟩ : Deed).vs := (Grow.new (m := []) hl _).sqT (SqT.of upd_same)
    have : k = 0 ∨ k = 1 := by omega
    rcases this with rfl | rfl
    · exact ⟨_, rfl, l, _, 0, _, rfl, rfl, SqL.of upd_same, atI_nat (j := 0) rfl, q ⟨0, none, none⟩ _ _ (fun _ _ z => nomatch z) (Bd3 n27 (fun _ z => nomatch z) fun _ z => nomatch z) (G2.trans gl.wk) (pp2.grow gl) ⟨t1, rfl, s1⟩⟩
    · exact ⟨_, rfl, l, _, 1, _, rfl, rfl, SqL.of upd_same, atI_nat (j := 1) rfl, q ⟨ad, none, none⟩ _ _ (fun _ _ z => nomatch z) (Bd3 had (fun _ z => nomatch z) fun _ z => nomatch z) (G2.trans gl.wk) (pp2.grow gl) ⟨t2, rfl, s2⟩⟩
  refine iteF' (decide_eq_false hk2) (c_next ?_)
  refine c_asg (fun v H' => ∃ lo : Int, v = .int lo ∧ N27 lo ∧ Grow [p] H2 H' ∧ Pot H' p) (fun Kk hk => ⟨_, rfl, _, rfl, _, _, rfl, p, b, rfl, rfl, pp2, fun n H' hn g pp' => hk _ _ ⟨n, rfl, hn, g, pp'⟩⟩) ?_
  rintro _ H3 ⟨lo, rfl, hlo, g3, pp3⟩
  have G3 := G2.trans g3
  have lo6 : -(10 ^ 27) ≤ lo ∧ lo ≤ 10 ^ 27 + 6 := by have := hlo.1; have := hlo.2; omega
  refine ⟨_, rfl, rfl, _, rfl, ?_⟩
  by_cases hk3 : k = 2
  · refine iteT' (decide_eq_true (congrArg V.int hk3)) ⟨_, rfl, _, rfl, szl rfl, fun t ht => q ⟨0, some lo, some lo⟩ _ _ (fun l u h1 h2 => .inr ⟨by cases h1; cases h2; rfl, rfl⟩) (Bd3 n27 (fun l z => by cases z; exact hlo) fun u z => by cases z; exact lo6) (G3.trans (Grow.new ht _)) (pp3.grow (Grow.new ht _)) ⟨t, rfl, SqT.of upd_same⟩⟩
  refine iteF' (decide_eq_false fun z => hk3 (V.int.inj z)) (c_next ?_)
  refine ⟨_, rfl, _, _, rfl, rfl, _, rfl, ?_⟩
  by_cases hk5 : k < 5
  · refine iteT' (decide_eq_true hk5) ⟨_, rfl, _, rfl, szl rfl, fun t1 ht1 => ⟨_, rfl, _, rfl, szl rfl, fun t2 ht2 => ⟨szl rfl, fun l hl => ?_⟩⟩⟩
    have gl := (Grow.new (m := []) ht1 (.tup [.int ad, .int lo, .non])).trans ((Grow.new ht2 (.tup [.int ad, .non, .int lo])).trans (Grow.new hl (.lst [.ref t1, .ref t2])))
    have s1 : SqT K (upd (upd (upd H3 t1 (.tup [.int ad, .int lo, .non])) t2 (.tup [.int ad, .non, .int lo])) l (.lst [.ref t1, .ref t2])) t1 (⟨ad, some lo, none⟩ : Deed).vs := ((Grow.new (m := []) ht2 _).trans (Grow.new hl _)).sqT (SqT.of upd_same)
    have s2 : SqT K (upd (upd (upd H3 t1 (.tup [.int ad, .int lo, .non])) t2 (.tup [.int ad, .non, .int lo])) l (.lst [.ref t1, .ref t2])) t2 (⟨ad, none, some lo⟩ : Deed).vs := (Grow.new (m := []) hl _).sqT (SqT.of upd_same)
    have : k = 3 ∨ k = 4 := by omega
    rcases this with rfl | rfl
    · exact ⟨_, rfl, _, _, rfl, rfl, l, _, 0, _, rfl, rfl, SqL.of upd_same, atI_nat (j := 0) rfl, q ⟨ad, some lo, none⟩ _ _ (fun _ _ _ z => nomatch z) (Bd3 had (fun l z => by cases z; exact hlo) fun _ z => nomatch z) (G3.trans gl.wk) (pp3.grow gl) ⟨t1, rfl, s1⟩⟩
    · exact ⟨_, rfl, _, _, rfl, rfl, l, _, 1, _, rfl, rfl, SqL.of upd_same, atI_nat (j := 1) rfl, q ⟨ad, none, some lo⟩ _ _ (fun _ _ z => nomatch z) (Bd3 had (fun _ z => nomatch z) fun u z => by cases z; exact lo6) (G3.trans gl.wk) (pp3.grow gl) ⟨t2, rfl, s2⟩⟩
  refine iteF' (decide_eq_false hk5) (c_next ?_)
  refine ⟨_, rfl, _, rfl, _, rfl, _, _, rfl, rfl, _, rfl, _, _, rfl, p, 5, rfl, rfl, pp3, by decide, by decide, fun n H4 n0 n1 g4 pp4 => ⟨_, _, rfl, rfl, szl rfl, fun t ht => ?_⟩⟩
  refine q ⟨ad, some lo, some (lo + 1 + n)⟩ _ _ (fun l u h1 h2 => .inl (by cases h1; cases h2; omega)) (Bd3 had (fun l z => by cases z; exact hlo) fun u z => ?_) (G3.trans (g4.trans (Grow.new ht _))) (pp4.grow (Grow.new ht _)) ⟨t, rfl, SqT.of upd_same⟩
  cases z
  have := hlo.1; have := hlo.2
  omega
theorem sc__law_history : FnScope ["_law_pot_here", "_law_boxes", "_law_many", "_law_wide", "_law_board", "_law_values", "_law_rooms", "_law_scale", "_law_moment", "_law_found", "_law_k", "_law_box", "_law_deed_here", "_law_begun", "_law_ended"] ["_law_pot_here", "_law_boxes", "_law_many", "_law_wide"] (defScope (top 38)) := ⟨rfl, rfl, rfl, by decide +kernel, rfl, by decide +kernel, by decide +kernel⟩
set_option maxHeartbeats 0 in
theorem ok__law_history {n : Nat} {f : Addr} {fd : FuncData} (F : Fun K "_law_history" "_law_history" (top 38) f fd) (B : Blt mg) (c__law_done : Callee P w K mg base n "_law_done" ["_law_deed_here", "_law_value"] (sp_made K)) (c__law_take : Callee P w K mg base n "_law_take" ["_law_pot_here", "_law_many"] (sp_take K)) (c__law_times : Callee P w K mg base n "_law_times" ["_law_pot_here", "_law_moment", "_law_scale"] (sp_times72 K)) (c__law_deed : Callee P w K mg base n "_law_deed" ["_law_pot_here", "_law_wide"] (sp_deed72 K)) (c__law_number : Callee P w K mg base n "_law_number" ["_law_pot_here", "_law_wide"] (sp_num72 K))    :
    FnOk P w K mg base CX0 (n + 1) f fd ["_law_pot_here", "_law_boxes", "_law_many", "_law_wide"] (sp_hist72 K) := by
  refine F.ok sc__law_history sp4_len (fun cdv A outer s H vs Q E hr h => ?_)
  obtain ⟨x, y, z, u, rfl, p, n, m, w, rfl, rfl, rfl, rfl, pp, n1, n6, m8, m40, q⟩ := h
  refine ⟨_, (pss_cons (ps_set (i := 4) sc__law_history.nd rfl (Or.inl rfl) (pe_callTy call_tuple_of rfl B.tuple b_tuple (pa_cons (pe_compT (CSc.of (N' := ["_law_box", "_law_pot_here", "_law_wide"]) (sub := [none, some 0, some 3]) (defScope (top 38)) ["_law_pot_here", "_law_boxes", "_law_many", "_law_wide", "_law_board", "_law_values", "_law_rooms", "_law_scale", "_law_moment", "_law_found", "_law_k", "_law_box", "_law_deed_here", "_law_begun", "_law_ended"] rfl rfl (by decide +kernel) rfl) rfl (pi_range1 rfl B.range (pa_cons (pv 1) pa_nil)) (fun _ _ _ _ _ _ => pg_name (i := 0) (show (["_law_box", "_law_pot_here", "_law_wide"] : List Str).Nodup by decide +kernel) rfl (Or.inl rfl)) (fun _ _ _ _ _ _ => pifs_nil) (fun _ _ _ _ _ _ => (pe_callC c__law_number hr rfl (pa_cons (pv 1) (pa_cons (pv 2) pa_nil))))) pa_nil))) (pss_cons (ps_set (i := 5) sc__law_history.nd rfl (Or.inl rfl) (pe_callTy call_list_of rfl B.list b_list (pa_cons (pv 4) pa_nil))) (pss_cons (ps_set (i := 6) sc__law_history.nd rfl (Or.inl rfl) (pe_op op_rep (pe_lst (pa_cons pe_int pa_nil)) (pv 1))) (pss_cons (ps_set (i := 7) sc__law_history.nd rfl (Or.inl rfl) (pe_ix ix_list (pe_lst (pa_cons pe_int (pa_cons pe_int (pa_cons (pe_op op_add (pe_op op_pow pe_int pe_int) pe_int) pa_nil)))) (pe_op op_mulG (pe_callC c__law_take hr rfl (pa_cons (pv 0) (pa_cons pe_int pa_nil))) (pe_callTy call_int1 rfl B.int b_int (pa_cons (pv 3) pa_nil))) (fun _ _ => rfl))) (pss_cons (ps_set (i := 8) sc__law_history.nd rfl (Or.inl rfl) pe_int) (pss_cons (ps_set (i := 9) sc__law_history.nd rfl (Or.inl rfl) (pe_lst pa_nil)) (pss_cons (ps_for PassesOwn.never rfl (pi_range1 rfl B.range (pa_cons (pv 2) pa_nil)) (pg_name (i := 10) sc__law_history.nd rfl (Or.inl rfl)) (pss_cons (ps_set (i := 11) sc__law_history.nd rfl (Or.inl rfl) (pe_callC c__law_take hr rfl (pa_cons (pv 0) (pa_cons (pv 1) pa_nil)))) (pss_cons (ps_if (pt_cmpR op_eq (pe_ix ix_list (pv 6) (pv 11) (fun _ _ => rfl)) pe_int (nomark _)) (pss_one (ps_set (i := 11) sc__law_history.nd rfl (Or.inl rfl) (pe_bm PySem.F.plainAttrs_list PySem.F.slot_list_index PySem.F.type_list_index (mt_index (K := K) rfl) (pv 6) (pa_cons (pe_callB (call_maxL rfl) rfl B.max b_max (pa_cons (pv 6) pa_nil)) pa_nil)))) pss_nil) (pss_cons (ps_asg (pe_op op_sub (pe_ix ix_list (pv 6) (pv 11) (fun _ _ => rfl)) pe_int) (pg_sub (pv 6) (pv 11) set_list)) (pss_cons (ps_set (i := 8) sc__law_history.nd rfl (Or.inl rfl) (pe_op op_add (pv 8) (pe_callC c__law_take hr rfl (pa_cons (pv 0) (pa_cons pe_int pa_nil))))) (pss_cons (ps_set (i := 12) sc__law_history.nd rfl (Or.inl rfl) (pe_callC c__law_deed hr rfl (pa_cons (pv 0) (pa_cons (pv 3) pa_nil)))) (pss_cons (ps_asg (pe_callC c__law_times hr rfl (pa_cons (pv 0) (pa_cons (pv 8) (pa_cons (pv 7) pa_nil)))) (pg_tup rfl (pgs_cons (pg_name (i := 13) sc__law_history.nd rfl (Or.inl rfl)) (pgs_cons (pg_name (i := 14) sc__law_history.nd rfl (Or.inl rfl)) pgs_nil)))) (pss_cons (ps_expr (pe_bm PySem.F.plainAttrs_list PySem.F.slot_list_append PySem.F.type_list_append mt_append (pv 9) (pa_cons (pe_tup (pa_cons (pe_callC c__law_take hr rfl (pa_cons (pv 0) (pa_cons pe_int pa_nil))) (pa_cons (pv 11) (pa_cons (pv 12) (pa_cons (pv 13) (pa_cons (pv 14) (pa_cons (pe_ix ix_list (pv 5) (pv 11) (fun _ _ => rfl)) pa_nil))))))) pa_nil))) (pss_one (ps_asg (pe_callC c__law_done hr rfl (pa_cons (pv 12) (pa_cons (pe_ix ix_list (pv 5) (pv 11) (fun _ _ => rfl)) pa_nil))) (pg_sub (pv 5) (pv 11) set_list))))))))))) (pss_one (ps_ret (pe_tup (pa_cons (pv 4) (pa_cons (pv 9) pa_nil)))))))))))), ?_⟩
  refine c_asg (fun v H' => ∃ (rb : Addr) (b : List Int), v = .ref rb ∧ SqT K H' rb (b.map V.int) ∧ b.length = n ∧ (∀ v ∈ b, N27 v) ∧ Grow [p] H H' ∧ Pot H' p) (fun Kk hk => ⟨_, rfl, _, rfl, by omega, by omega, comp_rng (fun i ys H' => ∃ b : List Int, ys = b.map V.int ∧ b.length = i ∧ (∀ v ∈ b, N27 v) ∧ Grow [p] H H' ∧ Pot H' p) ⟨[], rfl, rfl, (fun _ h => nomatch h), Grow.refl _ _, pp⟩ ?_ ?_⟩) ?_
  · rintro i ys H' hi ⟨b, rfl, bl, bb, g, pp'⟩
    refine ⟨_, rfl, _, rfl, _, _, rfl, p, w, rfl, rfl, pp', fun k H2 hk g2 pp2 => ⟨lt72 (by rw [List.length_map]; omega), b ++ [k], by rw [List.map_append]; rfl, by rw [List.length_append, List.length_singleton, bl], fun v hv => ?_, g.trans g2, pp2⟩⟩
    rcases List.mem_append.mp hv with hv | hv
    · exact bb v hv
    · rw [List.mem_singleton.mp hv]; exact hk
  · rintro ys H' ⟨b, rfl, bl, bb, g, pp'⟩ l hl
    exact ⟨l, _, rfl, .inl ⟨SqL.of upd_same, fun t ht => hk _ _ ⟨t, b, rfl, SqT.of upd_same, by rw [bl]; omega, bb, g.trans ((Grow.new hl _).trans (Grow.new ht _)), pp'.grow ((Grow.new hl _).trans (Grow.new ht _))⟩⟩⟩
  rintro _ H1 ⟨rb, b, rfl, hb1, bl, bb, g1, pp1⟩
  refine c_asg (fun v H' => ∃ rv, v = .ref rv ∧ H1 rv = none ∧ H' = upd H1 rv (.lst (b.map V.int))) (fun Kk hk => ⟨_, rfl, rb, _, rfl, .inr hb1, fun rv hv => hk _ _ ⟨rv, rfl, hv, rfl⟩⟩) ?_
  rintro _ _ ⟨rv, rfl, nv, rfl⟩
  refine c_asg (fun v H' => ∃ rr, v = .ref rr ∧ H' rr = some (.lst (natsV (List.replicate n 8))) ∧ upd H1 rv (.lst (b.map V.int)) rr = none ∧ Grow [] (upd H1 rv (.lst (b.map V.int))) H') (fun Kk hk => ⟨szl rfl, fun l hl => ⟨_, rfl, l, _, _, rfl, rfl, upd_same, by omega, by omega, le72 (by show 1 * _ ≤ _; omega), fun rr hrr => hk _ _ ⟨rr, rfl, ?_, (Grow.new (m := []) hl _).free (by simp) hrr, (Grow.new hl _).trans (Grow.new hrr _)⟩⟩⟩) ?_
  · rw [upd_same, Int.toNat_natCast, rep_flat]
  rintro _ H2 ⟨rr, rfl, hr2, nr, g2⟩
  have hv2 : H2 rv = some (.lst (b.map V.int)) := g2.keep _ _ (by simp) upd_same
  have gv := Grow.new (m := []) nv (.lst (b.map V.int))
  have pp2 : Pot H2 p := (pp1.grow gv).grow g2
  have nvp := pot_ne72 pp1 nv
  have nrp := pot_ne72 (pp1.grow gv) nr
  have nrv : rr ≠ rv := fun z => by rw [z, upd_same] at nr; cases nr
  refine c_asg (fun v H' => ∃ sc : Int, v = .int sc ∧ 1 ≤ sc ∧ sc ≤ 10 ^ 24 + 7 ∧ Grow [p] H2 H' ∧ Pot H' p) (fun Kk hk => ⟨_, _, rfl, rfl, ⟨by decide, by decide, by decide⟩, _, _, rfl, rfl, szl rfl, fun l hl => ⟨_, rfl, _, _, rfl, p, 3, rfl, rfl, pp2.grow (Grow.new hl _), by decide, by decide, fun t H' t0 t1 g pp' => ⟨_, rfl, .inr ⟨w, rfl, _, _, rfl, rfl, mulOkL ⟨by omega, by omega⟩, ?_⟩⟩⟩⟩) ?_
  · have nlp := pot_ne72 pp2 hl
    have hl' := g.keep _ _ nlp (upd_same (H := H2) (a := l) (o := .lst [V.int 1, V.int 1, V.int (10 ^ (24 : Int).toNat + 7)]))
    have G := (Grow.new (m := [p]) hl (.lst [V.int 1, V.int 1, V.int (10 ^ (24 : Int).toNat + 7)])).trans g
    have : t * (if w = true then 1 else 0) = 0 ∨ t * (if w = true then 1 else 0) = 1 ∨ t * (if w = true then 1 else 0) = 2 := by
      cases w
      · exact .inl (by rw [if_neg (by decide)]; omega)
      · rw [if_pos rfl]; omega
    rcases this with e | e | e
    · exact ⟨l, _, _, _, rfl, rfl, SqL.of hl', by rw [e]; exact atI_nat (j := 0) rfl, hk _ _ ⟨1, rfl, by decide, by decide, G, pp'⟩⟩
    · exact ⟨l, _, _, _, rfl, rfl, SqL.of hl', by rw [e]; exact atI_nat (j := 1) rfl, hk _ _ ⟨1, rfl, by decide, by decide, G, pp'⟩⟩
    · exact ⟨l, _, _, _, rfl, rfl, SqL.of hl', by rw [e]; exact atI_nat (j := 2) rfl, hk _ _ ⟨_, rfl, by decide, by decide, G, pp'⟩⟩
  rintro _ H3 ⟨sc, rfl, s0, s1, g3, pp3⟩
  have hr3 := g3.keep _ _ nrp hr2
  have hv3 := g3.keep _ _ nvp hv2
  refine ⟨szl rfl, fun rf nf => ?_⟩
  have nfp := pot_ne72 pp3 nf
  have nfv : rf ≠ rv := fun z => by rw [z, hv3] at nf; cases nf
  have nfr : rf ≠ rr := fun z => by rw [z, hr3] at nf; cases nf
  have g4 := Grow.new (m := [p]) nf (.lst [])
  have G4 : Grow [p] H (upd H3 rf (.lst [])) := g1.trans (gv.wk.trans (g2.wk.trans (g3.trans g4)))
  have hv4 : upd H3 rf (.lst []) rv = some (.lst (b.map V.int)) := by rw [upd_ne nfv.symm]; exact hv3
  have hr4 : upd H3 rf (.lst []) rr = some (.lst (natsV (List.replicate n 8))) := by rw [upd_ne nfr.symm]; exact hr3
  have pp4 := pp3.grow (Grow.new nf (.lst []))
  have hf4 : upd H3 rf (.lst []) rf = some (.lst []) := upd_same
  have hb4 := (gv.trans g2).sqT hb1
  have hb4' : SqT K (upd H3 rf (.lst [])) rb (b.map V.int) := g4.sqT (g3.sqT hb4)
  have fv : H rv = none := g1.free nvp nv
  have fr : H rr = none := g1.free nrp (gv.free (by simp) nr)
  have ff : H rf = none := (g1.trans (gv.wk.trans (g2.wk.trans g3))).free nfp nf
  have mfree : ∀ a ∈ [p, rv, rr, rf], a ∈ [p] ∨ H a = none := fun a ha => by
    rcases List.mem_cons.mp ha with rfl | ha
    · exact .inl (by simp)
    rcases List.mem_cons.mp ha with rfl | ha
    · exact .inr fv
    rcases List.mem_cons.mp ha with rfl | ha
    · exact .inr fr
    rw [List.mem_singleton.mp ha]; exact .inr ff
  have npv : p ≠ rv := fun z => nvp (by rw [z]; simp)
  have npr : p ≠ rr := fun z => nrp (by rw [z]; simp)
  have npf : p ≠ rf := fun z => nfp (by rw [z]; simp)
  have sub : ∀ a ∈ [p], a ∈ [p, rv, rr, rf] := fun a h => by rw [List.mem_singleton.mp h]; simp
  have I0 := HI72.start (sc := sc) bl bb
  have G4' := G4.mono sub
  generalize upd H3 rf (.lst []) = H4 at G4 G4' hv4 hr4 pp4 hf4 hb4' ⊢
  clear g4 hb4 hr3 hv3 hr2 hv2 g3 g2 gv g1
  refine ⟨_, rfl, _, rfl, by omega, by omega, ?_⟩
  refine for_range (fun i σ H' => ∃ (vs : List Int) (rs : List Nat) (cs : List Call72) (xs : List V) (mo : Int) (e10 e11 e12 e13 e14 : Option V), σ = [some (.ref p), some (.int n), some (.int m), some (.bl w), some (.ref rb), some (.ref rv), some (.ref rr), some (.int sc), some (.int mo), some (.ref rf), e10, e11, e12, e13, e14] ∧ HI72 n i b vs rs cs mo sc ∧ H' rv = some (.lst (vs.map V.int)) ∧ H' rr = some (.lst (natsV rs)) ∧ H' rf = some (.lst xs) ∧ AllR (CallAt72 K H') xs cs ∧ Grow [p, rv, rr, rf] H H' ∧ SqT K H' rb (b.map V.int) ∧ Pot H' p) ⟨b, _, [], [], 0, _, _, _, _, _, rfl, I0, hv4, hr4, hf4, trivial, G4', hb4', pp4⟩ ?_ ?_
  rotate_left
  · rintro σ H' ⟨vs, rs, cs, xs, mo, e10, e11, e12, e13, e14, rfl, I, hv, hr', hf, ha, g, hb, pp'⟩
    refine ⟨_, rfl, _, rfl, szl rfl, fun r hr0 => ?_⟩
    have gr := Grow.new (m := []) hr0 (.tup [.ref rb, .ref rf])
    exact q b cs xs r rb rf _ (I.hist (by omega) bl bb) ((Grow.shrinkTo mfree g).trans gr.wk) (pp'.grow gr) (SqT.of upd_same) (gr.sqT hb) (gr.keep _ _ (by simp) hf) (fun z => npf z.symm) (gr.callsR ha)
  rintro i σ H5 hi ⟨vs, rs, cs, xs, mo, e10, e11, e12, e13, e14, rfl, I, hv5, hr5, hf5, ha5, G5, hb5, pp5⟩
  have him : i < m := by omega
  have vl := I.vl
  have rl := I.rl
  try dsimp only
  refine c_asg (fun v H' => ∃ bx : Nat, v = .int bx ∧ bx < n ∧ Grow [p] H5 H' ∧ Pot H' p) (fun Kk hk => ⟨_, rfl, _, rfl, _, _, rfl, p, _, rfl, rfl, pp5, by omega, Int.lt_of_le_of_lt (b := 100) (by omega) (by decide), fun k H' k0 k1 g pp' => hk _ _ ⟨k.toNat, congrArg V.int (by omega), by omega, g, pp'⟩⟩) ?_
  rintro _ H6 ⟨bx0, rfl, hbx0, g6, pp6⟩
  have hv6 := g6.keep _ _ nvp hv5
  have hr6 := g6.keep _ _ nrp hr5
  have hf6 := g6.keep _ _ nfp hf5
  refine c_if (fun σ' H' => ∃ (bx x : Nat), σ' = [some (.ref p), some (.int n), some (.int m), some (.bl w), some (.ref rb), some (.ref rv), some (.ref rr), some (.int sc), some (.int mo), some (.ref rf), some (.int (0 + (i : Int))), some (.int bx), e12, e13, e14] ∧ rs[bx]? = some x ∧ 0 < x ∧ H' = H6) ?_ (fun hk => ?_)
  rotate_left
  · obtain ⟨x, hx⟩ : ∃ x, rs[bx0]? = some x := ⟨_, List.getElem?_eq_getElem (by omega)⟩
    refine ⟨_, rfl, _, rfl, rr, _, _, .int x, rfl, rfl, SqL.of hr6, atI_nat (by unfold natsV; rw [List.getElem?_map, hx]; rfl), rfl, _, rfl, ?_⟩
    by_cases x0 : x = 0
    · refine iteT' (decide_eq_true (by rw [x0]; rfl)) ⟨_, rfl, .inl ⟨rfl, _, SqL.of hr6⟩, _, rfl, rr, rs.map (fun k : Nat => (k : Int)), rfl, by rw [← natsV_ints72]; exact SqL.of hr6, by rw [List.length_map]; omega, fun M hM hmax => ?_⟩
      obtain ⟨k, hk', rfl⟩ := List.mem_map.mp hM
      have hsum := I.sm
      obtain ⟨z, hz, z0⟩ := sum_pos72 (l := rs) (by omega)
      have hle := hmax z (List.mem_map.mpr ⟨z, hz, rfl⟩)
      have hlt := List.idxOf_lt_length_of_mem hk'
      refine ⟨rr, rs, k, rfl, rfl, SqL.of hr6, hk', by omega, hk _ _ ⟨rs.idxOf k, k, rfl, ?_, by omega, rfl⟩⟩
      rw [List.getElem?_eq_getElem hlt, List.getElem_idxOf hlt]
    · exact iteF' (decide_eq_false fun z => x0 (by have := V.int.inj z; omega)) (hk _ _ ⟨bx0, x, rfl, hx, by omega, rfl⟩)
  rintro _ H6 ⟨bx, x, rfl, hx, x0, rfl⟩
  have hbx : bx < n := by rw [← rl]; exact (List.getElem?_eq_some_iff.mp hx).1
  have hrx : atI (natsV rs) bx = some (.int x) := atI_nat (by unfold natsV; rw [List.getElem?_map, hx]; rfl)
  have hvx : atI (vs.map V.int) bx = some (.int (vs.getD bx 0)) := atI_nat (by
    have hb' : bx < vs.length := by omega
    rw [List.getElem?_map, List.getElem?_eq_getElem hb', List.getD_eq_getElem?_getD, List.getElem?_eq_getElem hb']; rfl)
  refine ⟨_, rfl, _, rfl, rr, _, _, _, rfl, rfl, SqL.of hr6, hrx, _, _, rfl, rfl, _, rfl, _, rfl, rr, _, _, bx, rfl, rfl, hr6, ixN_nat (i := (bx : Int)) (by omega) (by rw [natsV_len]; omega), ?_⟩
  have er : (natsV rs).set bx (.int ((x : Int) - 1)) = natsV (rs.set bx (x - 1)) := by
    unfold natsV
    rw [List.map_set, show ((x : Int) - 1) = ((x - 1 : Nat) : Int) from by omega]
  have hr7 : upd H6 rr (.lst ((natsV rs).set bx (.int ((x : Int) - 1)))) rr = some (.lst (natsV (rs.set bx (x - 1)))) := by rw [upd_same, er]
  have hv7 : upd H6 rr (.lst ((natsV rs).set bx (.int ((x : Int) - 1)))) rv = some (.lst (vs.map V.int)) := by rw [upd_ne nrv.symm]; exact hv6
  have hf7 : upd H6 rr (.lst ((natsV rs).set bx (.int ((x : Int) - 1)))) rf = some (.lst xs) := by rw [upd_ne nfr]; exact hf6
  have G7 : Grow [p, rv, rr, rf] H (upd H6 rr (.lst ((natsV rs).set bx (.int ((x : Int) - 1))))) := G5.trans ((g6.mono sub).trans (Grow.set hr6 (by simp) _))
  have g57 : Grow [p, rv, rr, rf] H5 (upd H6 rr (.lst ((natsV rs).set bx (.int ((x : Int) - 1))))) := (g6.mono sub).trans (Grow.set hr6 (by simp) _)
  have pp7 : Pot (upd H6 rr (.lst ((natsV rs).set bx (.int ((x : Int) - 1))))) p := by
    obtain ⟨u0, u1, e, z⟩ := pp6
    exact ⟨u0, u1, by rw [upd_ne npr]; exact e, z⟩
  generalize upd H6 rr (.lst ((natsV rs).set bx (.int ((x : Int) - 1)))) = H7 at hr7 hv7 hf7 G7 g57 pp7 ⊢
  try dsimp only
  refine c_asg (fun v H' => ∃ t : Int, v = .int (mo + t) ∧ 0 ≤ t ∧ t ≤ 2 ∧ Grow [p] H7 H' ∧ Pot H' p) (fun Kk hk => ⟨_, rfl, _, rfl, _, _, rfl, p, 3, rfl, rfl, pp7, by decide, by decide, fun k H' k0 k1 g pp' => ⟨_, _, rfl, rfl, hk _ _ ⟨k, rfl, k0, by omega, g, pp'⟩⟩⟩) ?_
  rintro _ H8 ⟨t, rfl, t0, t1, g8, pp8⟩
  refine c_asg (fun v H' => ∃ d, DeedAt K H' v d ∧ d.Ok ∧ d.Bd (10 ^ 27 + 6) ∧ Grow [p] H8 H' ∧ Pot H' p) (fun Kk hk => ⟨_, rfl, _, rfl, _, _, rfl, p, w, rfl, rfl, pp8, fun d v H' od bd g pp' hd => hk _ _ ⟨d, hd, od, bd, g, pp'⟩⟩) ?_
  rintro yd H9 ⟨d, hd9, od, bd, g9, pp9⟩
  have mm0 := I.m0
  have mm1 := I.m1
  refine ⟨_, rfl, _, rfl, _, rfl, _, _, _, rfl, p, mo + t, sc, rfl, rfl, rfl, pp9, by omega, by omega, s0, by omega, fun be en rt H10 c0 c1 c2 c3 g10 pp10 ht => ⟨rt, _, rfl, ht, rfl, _, _, rfl, _, _, rfl, rfl, ?_⟩⟩
  try dsimp only
  have G10 := g8.trans (g9.trans g10)
  have hv10 := G10.keep _ _ nvp hv7
  have hr10 := G10.keep _ _ nrp hr7
  have hf10 := G10.keep _ _ nfp hf7
  refine ⟨_, rfl, .inl ⟨rfl, _, SqL.of hf10⟩, _, rfl, _, _, rfl, p, 16, rfl, rfl, pp10, by decide, by decide, fun hd' H11 h0 h1 g11 pp11 => ?_⟩
  have hv11 := g11.keep _ _ nvp hv10
  have hr11 := g11.keep _ _ nrp hr10
  have hf11 := g11.keep _ _ nfp hf10
  refine ⟨_, rfl, _, rfl, _, rfl, _, rfl, _, rfl, _, rfl, rv, _, _, _, rfl, rfl, SqL.of hv11, hvx, szl rfl, fun tc htc => ?_⟩
  obtain ⟨rd, rfl, sd⟩ := (g10.trans g11).deed hd9
  have gtc := Grow.new (m := []) htc (.tup [.int hd', .int bx, .ref rd, .int be, .int en, .int (vs.getD bx 0)])
  have hf12 := gtc.keep _ _ (by simp) hf11
  have hv12 := gtc.keep _ _ (by simp) hv11
  have hr12 := gtc.keep _ _ (by simp) hr11
  have xl := ha5.len
  have clI := I.cl
  refine ⟨rf, _, _, rfl, rfl, hf12, lt72 (by omega), ?_⟩
  have gap := Grow.set (m := [p, rv, rr, rf]) hf12 (by simp) (xs ++ [V.ref tc])
  refine ⟨_, rfl, _, rfl, _, rfl, rv, _, _, _, rfl, rfl, SqL.of (by rw [upd_ne nfv.symm]; exact hv12), hvx, _, _, rfl, d, _, ⟨rd, rfl, gap.sqT (gtc.sqT sd)⟩, rfl, _, rfl, _, rfl, rv, _, _, bx, rfl, rfl, by rw [upd_ne nfv.symm]; exact hv12, ixN_nat (i := (bx : Int)) (by omega) (by rw [List.length_map]; omega), ?_⟩
  have hv13 : upd (upd H11 tc (.tup [.int hd', .int bx, .ref rd, .int be, .int en, .int (vs.getD bx 0)])) rf (.lst (xs ++ [V.ref tc])) rv = some (.lst (vs.map V.int)) := by rw [upd_ne nfv.symm]; exact hv12
  have gfin := gap.trans (Grow.set (m := [p, rv, rr, rf]) hv13 (by simp) ((vs.map V.int).set bx (.int (d.mk' (vs.getD bx 0)))))
  have gall : Grow [p, rv, rr, rf] H5 _ := g57.trans ((G10.mono sub).trans ((g11.mono sub).trans (gtc.wk.trans gfin)))
  have I' := I.next (ha := hd') (be := be) (en := en) (by omega) n6 hx x0 t0 t1 s0 s1 h0 (by omega) od bd c0 c1 c2 c3
  refine ⟨_, _, _, xs ++ [V.ref tc], mo + t, _, _, _, _, _, rfl, I', ?_, ?_, ?_, ?_, G5.trans gall, gall.sqT hb5, ?_⟩
  · rw [upd_same, List.map_set]
  · rw [upd_ne nrv, upd_ne nfr.symm]; exact hr12
  · rw [upd_ne nfv, upd_same]
  · exact (gall.callsR ha5).app (AllR.one ⟨tc, rd, rfl, gfin.sqT (SqT.of upd_same), gfin.sqT (gtc.sqT sd)⟩)
  · obtain ⟨u0, u1, e, z⟩ := pp11.grow gtc
    exact ⟨u0, u1, by rw [upd_ne npv, upd_ne npf]; exact e, z⟩
theorem sc__law_size : FnScope ["_law_pot_here", "_law_boxes"] ["_law_pot_here", "_law_boxes"] (defScope (top 44)) := ⟨rfl, rfl, rfl, by decide +kernel, rfl, by decide +kernel, by decide +kernel⟩
set_option maxHeartbeats 0 in
theorem ok__law_size {n : Nat} {f : Addr} {fd : FuncData} (F : Fun K "_law_size" "_law_size" (top 44) f fd) (B : Blt mg) (c__law_take : Callee P w K mg base n "_law_take" ["_law_pot_here", "_law_many"] (sp_take K))    :
    FnOk P w K mg base CX0 (n + 1) f fd ["_law_pot_here", "_law_boxes"] (sp_size72 K) := by
  refine F.ok sc__law_size sp2_len (fun cdv A outer s H vs Q E hr h => ?_)
  obtain ⟨x, y, rfl, p, n, rfl, rfl, pp, n1, n6, q⟩ := h
  refine ⟨_, (pss_cons (ps_if (pt_cmpR op_eq (pe_callC c__law_take hr rfl (pa_cons (pv 0) (pa_cons pe_int pa_nil))) pe_int (nomark _)) (pss_one (ps_ret (pe_op op_mulG pe_int (pv 1)))) pss_nil) (pss_one (ps_ret (pe_callC c__law_take hr rfl (pa_cons (pv 0) (pa_cons (pe_callB (call_min2 rfl) rfl B.min b_min (pa_cons pe_int (pa_cons (pe_op op_add (pe_op op_mulG pe_int (pv 1)) pe_int) pa_nil))) pa_nil)))))), ?_⟩
  refine c_test (fun b H' => Grow [p] H H' ∧ Pot H' p) (fun Kk hk => ⟨_, rfl, _, _, rfl, p, 8, rfl, rfl, pp, by decide, by decide, fun n H' n0 n1 g pp' => ⟨rfl, _, rfl, hk _ _ ⟨g, pp'⟩⟩⟩) ?_
  rintro b1 H1 ⟨g1, pp1⟩
  cases b1 with
  | true =>
    refine iteT ⟨_, rfl, _, _, rfl, rfl, mulOkL ⟨by decide, by decide⟩, ?_⟩
    have := q (5 * n) H1 (by omega) (by omega) g1 pp1
    rw [show ((5 * n : Nat) : Int) = 5 * (n : Int) from by omega] at this
    exact this
  | false =>
    refine iteF (c_next ⟨_, rfl, _, rfl, _, _, rfl, rfl, mulOkL ⟨by decide, by decide⟩, _, _, rfl, rfl, _, _, rfl, _, _, rfl, p, _, rfl, rfl, pp1, by split <;> omega, Int.lt_of_le_of_lt (b := 100) (by split <;> omega) (by decide), fun m H2 m0 m1 g2 pp2 => ?_⟩)
    obtain ⟨k, rfl⟩ := Int.eq_ofNat_of_zero_le m0
    refine q k H2 ?_ ?_ (g1.trans g2) pp2
    · split at m1 <;> omega
    · split at m1 <;> omega
theorem sc__law_at : FnScope ["_law_script", "_law_k"] ["_law_script", "_law_k"] (defScope (top 30)) := ⟨rfl, rfl, rfl, by decide +kernel, rfl, by decide +kernel, by decide +kernel⟩
set_option maxHeartbeats 0 in
theorem ok__law_at {n : Nat} {f : Addr} {fd : FuncData} (F : Fun K "_law_at" "_law_at" (top 30) f fd) (B : Blt mg)     :
    FnOk P w K mg base CX0 (n + 1) f fd ["_law_script", "_law_k"] (sp_at72 K) := by
  refine F.ok sc__law_at sp2_len (fun cdv A outer s H vs Q E hr h => ?_)
  obtain ⟨x, y, rfl, a, ns, k, rfl, rfl, hs, k0, q⟩ := h
  refine ⟨_, (pss_cons (ps_if (pt_cmpR op_lt (pv 1) (pe_callB call_len_seq rfl B.len b_len (pa_cons (pv 0) pa_nil)) (nomark _)) (pss_one (ps_ret (pe_ix ix_list (pv 0) (pv 1) (fun _ _ => rfl)))) pss_nil) (pss_one (ps_ret pe_int))), ?_⟩
  refine ⟨_, rfl, _, rfl, a, _, rfl, .inl hs.sq, _, _, rfl, rfl, _, rfl, ?_⟩
  refine ite2 (fun c => ?_) (fun c => ?_)
  · have c' : k < ((ns.map V.int).length : Int) := of_decide_eq_true c
    rw [List.length_map] at c'
    have hk : k.toNat < ns.length := by omega
    have ek : k = ((k.toNat : Nat) : Int) := by omega
    have hat : atI (ns.map V.int) k = some (.int ns[k.toNat]) := by
      have z : atI (ns.map V.int) ((k.toNat : Nat) : Int) = some (.int ns[k.toNat]) := atI_nat (by rw [List.getElem?_map, List.getElem?_eq_getElem hk]; rfl)
      rw [← ek] at z; exact z
    exact ⟨_, rfl, _, rfl, a, _, _, _, rfl, rfl, hs.sq, hat, q _ (.inr (List.getElem_mem hk))⟩
  · exact q 0 (.inl rfl)
theorem sc__law_pot : FnScope ["_law_script", "_law_k", "_law_cell", "_law_seed"] ["_law_script", "_law_k"] (defScope (top 31)) := ⟨rfl, rfl, rfl, by decide +kernel, rfl, by decide +kernel, by decide +kernel⟩
set_option maxHeartbeats 0 in
theorem ok__law_pot {n : Nat} {f : Addr} {fd : FuncData} (F : Fun K "_law_pot" "_law_pot" (top 31) f fd) (B : Blt mg) (c__law_at : Callee P w K mg base n "_law_at" ["_law_script", "_law_k"] (sp_at72 K))    :
    FnOk P w K mg base CX0 (n + 1) f fd ["_law_script", "_law_k"] (sp_pot K) := by
  refine F.ok sc__law_pot sp2_len (fun cdv A outer s H vs Q E hr h => ?_)
  obtain ⟨x, y, rfl, a, ns, k, rfl, rfl, hs, k0, k1, q⟩ := h
  refine ⟨_, (pss_cons (ps_set (i := 2) sc__law_pot.nd rfl (Or.inl rfl) (pe_callC c__law_at hr rfl (pa_cons (pv 0) (pa_cons (pv 1) pa_nil)))) (pss_cons (ps_set (i := 3) sc__law_pot.nd rfl (Or.inl rfl) (pe_op op_mod (pe_op op_pow (pe_op op_add (pe_op op_mulG (pe_op op_add (pe_op op_mod (pv 2) pe_int) pe_int) (pe_op op_add (pe_op op_mulG pe_int (pv 1)) pe_int)) pe_int) pe_int) pe_int)) (pss_one (ps_ret (pe_lst (pa_cons (pe_callB (call_max2 rfl) rfl B.max b_max (pa_cons pe_int (pa_cons (pe_op op_sub (pv 2) (pe_op op_pow pe_int pe_int)) pa_nil))) (pa_cons (pv 3) pa_nil))))))), ?_⟩
  refine ⟨_, rfl, _, rfl, _, _, rfl, a, ns, k, rfl, rfl, hs, k0, fun c _ => ?_⟩
  have c0 : 0 ≤ c % 2147483629 := Int.emod_nonneg _ (by decide)
  have c1 : c % 2147483629 < 2147483629 := Int.emod_lt_of_pos _ (by decide)
  have m0 : 0 ≤ (c % 2147483629 + 11) * (977 * k + 131) := Int.mul_nonneg (by omega) (by omega)
  have m1 : (c % 2147483629 + 11) * (977 * k + 131) ≤ 2147483640 * 1000000 := Int.mul_le_mul (by omega) (by omega) (by omega) (by decide)
  refine ⟨_, rfl, _, _, rfl, rfl, (by show (0 : Int) < 2147483629; decide), _, _, rfl, rfl, _, rfl, _, _, rfl, rfl, mulOkL ⟨by decide, by decide⟩, _, _, rfl, rfl, _, _, rfl, rfl, mulOkR ⟨by omega, by omega⟩, _, _, rfl, rfl, _, _, rfl, rfl, ⟨by decide, by decide, by omega⟩, _, _, rfl, rfl, (by show (0 : Int) < 2147483647; decide), ?_⟩
  refine ⟨_, rfl, _, _, rfl, rfl, ⟨by decide, by decide, by decide⟩, _, _, rfl, rfl, _, _, rfl, _, rfl, szl rfl, fun p hp => ?_⟩
  refine q p _ hp (Grow.new hp _) ⟨_, _, upd_same, ?_⟩
  split <;> omega
theorem sc_law : FnScope ["_law_script", "_law_k", "_law_pot_here", "_law_boxes", "_law_board", "_law_some", "_law_calls", "_law_order", "_law_orders_here", "_law_turn"] ["_law_script"] (defScope (top 49)) := ⟨rfl, rfl, rfl, by decide +kernel, rfl, by decide +kernel, by decide +kernel⟩
set_option maxHeartbeats 0 in
theorem ok_law {n : Nat} {f : Addr} {fd : FuncData} (F : Fun K "law" "law" (top 49) f fd) (B : Blt mg) (c__law_spoilt : Callee P w K mg base n "_law_spoilt" ["_law_pot_here", "_law_calls"] (sp_spoilt72 K)) (c__law_told : Callee P w K mg base n "_law_told" ["_law_board", "_law_calls", "_law_some"] (sp_told72 K)) (c__law_orders : Callee P w K mg base n "_law_orders" ["_law_pot_here", "_law_order"] (sp_orders72 K)) (c_fits : Callee P w K mg base n "fits" ["board", "calls", "order"] (sp_fits72 K)) (c__law_mixed : Callee P w K mg base n "_law_mixed" ["_law_pot_here", "_law_some"] (sp_mixed72 K)) (c__law_history : Callee P w K mg base n "_law_history" ["_law_pot_here", "_law_boxes", "_law_many", "_law_wide"] (sp_hist72 K)) (c__law_take : Callee P w K mg base n "_law_take" ["_law_pot_here", "_law_many"] (sp_take K)) (c__law_size : Callee P w K mg base n "_law_size" ["_law_pot_here", "_law_boxes"] (sp_size72 K)) (c__law_pot : Callee P w K mg base n "_law_pot" ["_law_script", "_law_k"] (sp_pot K))    :
    FnOk P w K mg base CX0 (n + 1) f fd ["_law_script"] (sp_law K) := by
  refine F.ok sc_law sp1_len (fun cdv A outer s H vs Q E hr h => ?_)
  obtain ⟨x, rfl, a, ns, rfl, hs, h63, q⟩ := h
  refine ⟨_, (pss_cons (ps_for PassesOwn.never rfl (pi_range1 rfl B.range (pa_cons (pe_callB (call_max2 rfl) rfl B.max b_max (pa_cons pe_int (pa_cons (pe_callB (call_min2 rfl) rfl B.min b_min (pa_cons pe_int (pa_cons (pe_callB call_len_seq rfl B.len b_len (pa_cons (pv 0) pa_nil)) pa_nil))) pa_nil))) pa_nil)) (pg_name (i := 1) sc_law.nd rfl (Or.inl rfl)) (pss_cons (ps_set (i := 2) sc_law.nd rfl (Or.inl rfl) (pe_callC c__law_pot hr rfl (pa_cons (pv 0) (pa_cons (pv 1) pa_nil)))) (pss_cons (ps_set (i := 3) sc_law.nd rfl (Or.inl rfl) (pe_op op_add pe_int (pe_callC c__law_take hr rfl (pa_cons (pv 2) (pa_cons pe_int pa_nil))))) (pss_cons (ps_asg (pe_callC c__law_history hr rfl (pa_cons (pv 2) (pa_cons (pv 3) (pa_cons (pe_callC c__law_size hr rfl (pa_cons (pv 2) (pa_cons (pv 3) pa_nil))) (pa_cons (pe_cmpR op_eq (pe_callC c__law_take hr rfl (pa_cons (pv 2) (pa_cons pe_int pa_nil))) pe_int (nomark _)) pa_nil))))) (pg_tup rfl (pgs_cons (pg_name (i := 4) sc_law.nd rfl (Or.inl rfl)) (pgs_cons (pg_name (i := 5) sc_law.nd rfl (Or.inl rfl)) pgs_nil)))) (pss_cons (ps_asg (pe_callC c__law_mixed hr rfl (pa_cons (pv 2) (pa_cons (pv 5) pa_nil))) (pg_tup rfl (pgs_cons (pg_name (i := 6) sc_law.nd rfl (Or.inl rfl)) (pgs_cons (pg_name (i := 7) sc_law.nd rfl (Or.inl rfl)) pgs_nil)))) (pss_cons (ps_if (pt_cmpR op_isnotB (pe_callC c_fits hr rfl (pa_cons (pv 4) (pa_cons (pv 6) (pa_cons (pv 7) pa_nil)))) pe_bl (nomark _)) (pss_one (ps_ret pe_bl)) pss_nil) (pss_cons (ps_set (i := 8) sc_law.nd rfl (Or.inl rfl) (pe_callC c__law_orders hr rfl (pa_cons (pv 2) (pa_cons (pv 7) pa_nil)))) (pss_one (ps_for PassesOwn.never rfl (pi_range1 rfl B.range (pa_cons pe_int pa_nil)) (pg_name (i := 9) sc_law.nd rfl (Or.inl rfl)) (pss_cons (ps_if (pt_not (pt_val (pe_callC c__law_told hr rfl (pa_cons (pv 4) (pa_cons (pv 6) (pa_cons (pv 8) pa_nil)))))) (pss_one (ps_ret pe_bl)) pss_nil) (pss_one (ps_set (i := 6) sc_law.nd rfl (Or.inl rfl) (pe_callC c__law_spoilt hr rfl (pa_cons (pv 2) (pa_cons (pv 6) pa_nil))))))))))))))) (pss_one (ps_ret pe_bl))), ?_⟩
  have hl : (ns.map V.int).length = ns.length := List.length_map ..
  refine ⟨_, rfl, a, _, rfl, .inl hs.sq, _, _, rfl, _, _, rfl, _, rfl, ?_, ?_, ?_⟩
  · split <;> split <;> omega
  · rw [hl]; split <;> split <;> omega
  refine for_range (fun i σ H' => ∃ (e1 e2 e3 e4 e5 e6 e7 e8 e9 : Option V), σ = [some (.ref a), e1, e2, e3, e4, e5, e6, e7, e8, e9] ∧ Grow [] H H') ⟨_, _, _, _, _, _, _, _, _, rfl, Grow.refl _ _⟩ ?_ ?_
  rotate_left
  · rintro σ H1 _
    exact q _
  rintro i σ H1 hi ⟨e1, e2, e3, e4, e5, e6, e7, e8, e9, rfl, g⟩
  have i63 : i < 1000 := by
    have hi' := hi
    revert hi'
    split <;> split <;> omega
  try dsimp only
  refine c_asg (fun v H' => ∃ p, v = .ref p ∧ H1 p = none ∧ Grow [] H1 H' ∧ Pot H' p) (fun Kk hk => ⟨_, rfl, _, rfl, _, _, rfl, a, ns, _, rfl, rfl, g.scr hs, by omega, by omega, fun p H2 hp g2 pp => hk _ _ ⟨p, rfl, hp, g2, pp⟩⟩) ?_
  rintro _ H2 ⟨p, rfl, np, g2, pp2⟩
  refine c_asg (fun v H' => ∃ n : Nat, v = .int n ∧ 1 ≤ n ∧ n ≤ 6 ∧ Grow [p] H2 H' ∧ Pot H' p) (fun Kk hk => ⟨_, rfl, _, _, rfl, p, 6, rfl, rfl, pp2, by decide, by decide, fun t H' t0 t1 g pp' => ⟨_, _, rfl, rfl, hk _ _ ⟨(1 + t).toNat, congrArg V.int (by omega), by omega, by omega, g, pp'⟩⟩⟩) ?_
  rintro _ H3 ⟨n, rfl, n1, n6, g3, pp3⟩
  refine ⟨_, rfl, _, rfl, _, rfl, _, rfl, _, _, rfl, p, n, rfl, rfl, pp3, n1, n6, fun m H4 m8 m40 g4 pp4 => ⟨_, rfl, _, _, rfl, p, 2, rfl, rfl, pp4, by decide, by decide, fun t H5 t0 t1 g5 pp5 => ⟨rfl, _, _, _, _, rfl, p, n, m, decide (V.int t = V.int 1), rfl, rfl, rfl, rfl, pp5, n1, n6, m8, m40, fun b cs xs r rb l H6 hist g6 pp6 hr6 hrb6 hl6 lp6 ha6 => ⟨r, _, rfl, hr6, rfl, _, _, rfl, _, _, rfl, rfl, ?_⟩⟩⟩⟩
  try dsimp only
  have c40 := hist.ok.len
  refine ⟨_, rfl, _, rfl, _, _, rfl, p, l, xs, cs, rfl, rfl, pp6, hl6, lp6, ha6, c40, fun ms r7 ro yc H7 hp g7 pp7 hr7 hc7 hro7 => ⟨r7, _, rfl, hr7, rfl, _, _, rfl, _, _, rfl, rfl, ?_⟩⟩
  try dsimp only
  have G7 : Grow [p] H1 H7 := g2.wk.trans (g3.trans (g4.trans (g5.trans (g6.trans g7))))
  have hb7 : BoardAt K H7 (.ref rb) b := ⟨rb, rfl, g7.sqT hrb6⟩
  have b1 : 1 ≤ b.length := by rw [hist.bl]; exact n1
  have b16 : b.length ≤ 16 := by rw [hist.bl]; omega
  have mlen : ms.length = cs.length := by rw [hp.length_eq, List.length_range]
  have ok7 : Calls72 b.length (ms.map (cg cs)) := by rw [hist.bl]; exact hist.ok.perm (mixed_calls hp)
  have bd7 : ∀ c ∈ ms.map (cg cs), Cb72 (10 ^ 29) c := fun c hc => hist.bd c ((mixed_calls hp).mem_iff.mp hc)
  have klt : ∀ k ∈ (List.range cs.length).map (fun j => ms.idxOf j), k < 40 := fun k hk => by
    obtain ⟨j, hj, rfl⟩ := List.mem_map.mp hk
    have := List.idxOf_lt_length_of_mem (hp.mem_iff.mpr hj)
    omega
  have kl : ((List.range cs.length).map fun j => ms.idxOf j).length ≤ 40 := by rw [List.length_map, List.length_range]; exact c40
  refine c_test (fun b H' => b = false ∧ Grow [] H7 H') (fun Kk hk => ⟨_, rfl, _, rfl, _, rfl, _, _, _, rfl, b, ms.map (cg cs), .tuple (((List.range cs.length).map fun j => ms.idxOf j).map fun k : Nat => PyData.int (k : Int)), [], hb7, b1, b16, hc7, od_nats72 hro7.sqT, ok7, fl_nats72 (by omega), fun bb H8 g8 hbb => ?_⟩) ?_
  · have e : bb = true := hbb.mpr (hist_fit hist hp)
    subst e
    exact ⟨_, _, rfl, rfl, _, rfl, hk _ _ ⟨rfl, g8⟩⟩
  rintro _ H8 ⟨rfl, g8⟩
  refine iteF (c_next ?_)
  have hro8 := g8.frT hro7
  have pp8 := pp7.grow g8
  refine c_asg (fun v H' => ∃ (l9 : Addr) (xs9 : List V) (ds : List PyData), v = .ref l9 ∧ H' l9 = some (.lst xs9) ∧ l9 ∉ [p] ∧ l9 ≠ sysModules ∧ Ods K [p] H' xs9 ds ∧ (∀ d ∈ ds, Fl72 d ∧ GdD 10 5 130000 d) ∧ ds.length ≤ 30 ∧ Grow [p] H8 H' ∧ Pot H' p) (fun Kk hk => ⟨_, rfl, _, rfl, _, _, rfl, p, ro, _, rfl, rfl, pp8, hro8, kl, klt, fun l9 xs9 H9 g9 pp9 h9 n9 s9 gd9 x30 => ?_⟩) ?_
  · obtain ⟨ds, os, hds⟩ := gods72 gd9
    exact hk _ _ ⟨l9, xs9, ds, rfl, h9, n9, s9, os, hds, by rw [← os.length]; exact x30, g9, pp9⟩
  rintro _ H9 ⟨l9, xs9, ds, rfl, h9, n9, s9, os9, hds, d30, g9, pp9⟩
  have G9 := G7.trans (g8.wk.trans g9)
  have g79 : Grow [p] H7 H9 := g8.wk.trans g9
  refine ⟨_, rfl, by decide, by decide, ?_⟩
  refine for_range (fun j σ H' => ∃ (cs' : List Call72) (y : V) (e9 : Option V), σ = [some (.ref a), some (.int (0 + (i : Int))), some (.ref p), some (.int n), some (.ref rb), some (.ref l), some y, some (.ref ro), some (.ref l9), e9] ∧ CallsAt72 K H' y cs' ∧ Calls72 b.length cs' ∧ (∀ c ∈ cs', Cb72 (10 ^ 29 + j) c) ∧ Grow [p] H9 H' ∧ Pot H' p) ⟨_, yc, _, rfl, g79.calls72 hc7, ok7, (fun c hc => (bd7 c hc).mono (by omega)), Grow.refl _ _, pp9⟩ ?_ ?_
  rotate_left
  · rintro σ H10 ⟨cs', y, e9, rfl, _, _, _, g10, _⟩
    exact ⟨_, _, _, _, _, _, _, _, _, rfl, g.trans ((G9.trans g10).shrink np)⟩
  rintro j σ H10 hj ⟨cs', y, e9, rfl, hc10, ok10, bd10, g10, pp10⟩
  have j2 : j < 2 := hj
  try dsimp only
  refine c_test (fun b H' => b = false ∧ Grow [] H10 H') (fun Kk hk => ⟨_, rfl, _, rfl, _, rfl, _, _, _, rfl, b, cs', l9, xs9, ds, [p], (g79.trans g10).board hb7, b1, b16, hist.bb, hc10, ok10, (fun c hc => (bd10 c hc).mono (by omega)), rfl, g10.keep _ _ n9 h9, n9, s9, os9.grow g10, hds, d30, fun H11 g11 => ⟨_, rfl, hk _ _ ⟨rfl, g11⟩⟩⟩) ?_
  rintro _ H11 ⟨rfl, g11⟩
  refine iteF (c_next ?_)
  exact ⟨_, rfl, _, rfl, _, _, rfl, p, cs', b.length, 10 ^ 29 + j, rfl, pp10.grow g11, g11.calls72 hc10, ok10, bd10, fun cs2 v H12 ok12 bd12 g12 pp12 hc12 => ⟨cs2, v, _, rfl, hc12, ok12, (fun c hc => (bd12 c hc).mono (by omega)), g10.trans (g11.wk.trans g12), pp12⟩⟩
end
theorem my_len1 : ∀ {us : List Value}, us.length = 1 → ∃ x0, us = [x0]
  | [x0], _ => ⟨x0, rfl⟩
theorem my_len2 : ∀ {us : List Value}, us.length = 2 → ∃ x0, ∃ x1, us = [x0, x1]
  | [x0, x1], _ => ⟨x0, x1, rfl⟩
theorem my_len3 : ∀ {us : List Value}, us.length = 3 → ∃ x0, ∃ x1, ∃ x2, us = [x0, x1, x2]
  | [x0, x1, x2], _ => ⟨x0, x1, x2, rfl⟩
theorem my_len4 : ∀ {us : List Value}, us.length = 4 → ∃ x0, ∃ x1, ∃ x2, ∃ x3, us = [x0, x1, x2, x3]
  | [x0, x1, x2, x3], _ => ⟨x0, x1, x2, x3, rfl⟩
set_option maxHeartbeats 0 in
theorem all_mk {l : PySem.W.OpenLaw} {w : World} {K : PySem.W.Frag} {h : Heap} {mg : Str → Option Value} {fa f1 f2 f3 f4 f5 f6 f7 f8 f9 f10 f11 f12 f13 f14 f15 f16 f17 f18 f19 f20 f21 f22 f23 f24 f25 f26 f27 f28 f29 f30 f31 f32 f33 f34 f35 f36 f37 : Addr} (X : K.In h) (G : h.Ns mainGlobals mg) (hfa : mg "law" = some (.ref fa))
    {od1 an1 od2 an2 od3 an3 od4 an4 od5 an5 od6 an6 od7 an7 od8 an8 od9 an9 od10 an10 od11 an11 od12 an12 od13 an13 od14 an14 od15 an15 od16 an16 od17 an17 od18 an18 od19 an19 od20 an20 od21 an21 od22 an22 od23 an23 od24 an24 od25 an25 od26 an26 od27 an27 od28 an28 od29 an29 od30 an30 od31 an31 od32 an32 od33 an33 od34 an34 od35 an35 od36 an36 od37 an37 : Option Addr} {sl1 sl2 sl3 sl4 sl5 sl6 sl7 sl8 sl9 sl10 sl11 sl12 sl13 sl14 sl15 sl16 sl17 sl18 sl19 sl20 sl21 sl22 sl23 sl24 sl25 sl26 sl27 sl28 sl29 sl30 sl31 sl32 sl33 sl34 sl35 sl36 sl37 : Array (Option Value)} {oc1 kV1 dc1 pm1 cd1 ct1 oc2 kV2 dc2 pm2 cd2 ct2 oc3 kV3 dc3 pm3 cd3 ct3 oc4 kV4 dc4 pm4 cd4 ct4 oc5 kV5 dc5 pm5 cd5 ct5 oc6 kV6 dc6 pm6 cd6 ct6 oc7 kV7 dc7 pm7 cd7 ct7 oc8 kV8 dc8 pm8 cd8 ct8 oc9 kV9 dc9 pm9 cd9 ct9 oc10 kV10 dc10 pm10 cd10 ct10 oc11 kV11 dc11 pm11 cd11 ct11 oc12 kV12 dc12 pm12 cd12 ct12 oc13 kV13 dc13 pm13 cd13 ct13 oc14 kV14 dc14 pm14 cd14 ct14 oc15 kV15 dc15 pm15 cd15 ct15 oc16 kV16 dc16 pm16 cd16 ct16 oc17 kV17 dc17 pm17 cd17 ct17 oc18 kV18 dc18 pm18 cd18 ct18 oc19 kV19 dc19 pm19 cd19 ct19 oc20 kV20 dc20 pm20 cd20 ct20 oc21 kV21 dc21 pm21 cd21 ct21 oc22 kV22 dc22 pm22 cd22 ct22 oc23 kV23 dc23 pm23 cd23 ct23 oc24 kV24 dc24 pm24 cd24 ct24 oc25 kV25 dc25 pm25 cd25 ct25 oc26 kV26 dc26 pm26 cd26 ct26 oc27 kV27 dc27 pm27 cd27 ct27 oc28 kV28 dc28 pm28 cd28 ct28 oc29 kV29 dc29 pm29 cd29 ct29 oc30 kV30 dc30 pm30 cd30 ct30 oc31 kV31 dc31 pm31 cd31 ct31 oc32 kV32 dc32 pm32 cd32 ct32 oc33 kV33 dc33 pm33 cd33 ct33 oc34 kV34 dc34 pm34 cd34 ct34 oc35 kV35 dc35 pm35 cd35 ct35 oc36 kV36 dc36 pm36 cd36 ct36 oc37 kV37 dc37 pm37 cd37 ct37 : Value}
    (a1 : PySem.W.nsIn K mainGlobals "_law_take" = some (some (.ref f1))) (l1 : K.lookup f1 = some ⟨oc1, od1, .func (PySem.W.fnOf "_law_take" "_law_take" (defArgs (top 32)) (defBody (top 32)) (defScope (top 32)) .none kV1 dc1 pm1 an1 cd1 ct1), sl1⟩) (c1 : PySem.W.codeIn K cd1 "_law_take" = true) (k1 : PySem.W.keepIn K (.ref f1) = true)
    (a2 : PySem.W.nsIn K mainGlobals "_law_spoilt" = some (some (.ref f2))) (l2 : K.lookup f2 = some ⟨oc2, od2, .func (PySem.W.fnOf "_law_spoilt" "_law_spoilt" (defArgs (top 46)) (defBody (top 46)) (defScope (top 46)) .none kV2 dc2 pm2 an2 cd2 ct2), sl2⟩) (c2 : PySem.W.codeIn K cd2 "_law_spoilt" = true) (k2 : PySem.W.keepIn K (.ref f2) = true)
    (a3 : PySem.W.nsIn K mainGlobals "_law_is_truth" = some (some (.ref f3))) (l3 : K.lookup f3 = some ⟨oc3, od3, .func (PySem.W.fnOf "_law_is_truth" "_law_is_truth" (defArgs (top 47)) (defBody (top 47)) (defScope (top 47)) .none kV3 dc3 pm3 an3 cd3 ct3), sl3⟩) (c3 : PySem.W.codeIn K cd3 "_law_is_truth" = true) (k3 : PySem.W.keepIn K (.ref f3) = true)
    (a4 : PySem.W.nsIn K mainGlobals "made" = some (some (.ref f4))) (l4 : K.lookup f4 = some ⟨oc4, od4, .func (PySem.W.fnOf "made" "made" (defArgs (top 10)) (defBody (top 10)) (defScope (top 10)) .none kV4 dc4 pm4 an4 cd4 ct4), sl4⟩) (c4 : PySem.W.codeIn K cd4 "made" = true) (k4 : PySem.W.keepIn K (.ref f4) = true)
    (a5 : PySem.W.nsIn K mainGlobals "are_answered" = some (some (.ref f5))) (l5 : K.lookup f5 = some ⟨oc5, od5, .func (PySem.W.fnOf "are_answered" "are_answered" (defArgs (top 25)) (defBody (top 25)) (defScope (top 25)) .none kV5 dc5 pm5 an5 cd5 ct5), sl5⟩) (c5 : PySem.W.codeIn K cd5 "are_answered" = true) (k5 : PySem.W.keepIn K (.ref f5) = true)
    (a6 : PySem.W.nsIn K mainGlobals "keeps_ahead" = some (some (.ref f6))) (l6 : K.lookup f6 = some ⟨oc6, od6, .func (PySem.W.fnOf "keeps_ahead" "keeps_ahead" (defArgs (top 26)) (defBody (top 26)) (defScope (top 26)) .none kV6 dc6 pm6 an6 cd6 ct6), sl6⟩) (c6 : PySem.W.codeIn K cd6 "keeps_ahead" = true) (k6 : PySem.W.keepIn K (.ref f6) = true)
    (a7 : PySem.W.nsIn K mainGlobals "is_whole" = some (some (.ref f7))) (l7 : K.lookup f7 = some ⟨oc7, od7, .func (PySem.W.fnOf "is_whole" "is_whole" (defArgs (top 5)) (defBody (top 5)) (defScope (top 5)) .none kV7 dc7 pm7 an7 cd7 ct7), sl7⟩) (c7 : PySem.W.codeIn K cd7 "is_whole" = true) (k7 : PySem.W.keepIn K (.ref f7) = true)
    (a8 : PySem.W.nsIn K mainGlobals "is_order" = some (some (.ref f8))) (l8 : K.lookup f8 = some ⟨oc8, od8, .func (PySem.W.fnOf "is_order" "is_order" (defArgs (top 24)) (defBody (top 24)) (defScope (top 24)) .none kV8 dc8 pm8 an8 cd8 ct8), sl8⟩) (c8 : PySem.W.codeIn K cd8 "is_order" = true) (k8 : PySem.W.keepIn K (.ref f8) = true)
    (a9 : PySem.W.nsIn K mainGlobals "fits_these" = some (some (.ref f9))) (l9 : K.lookup f9 = some ⟨oc9, od9, .func (PySem.W.fnOf "fits_these" "fits_these" (defArgs (top 27)) (defBody (top 27)) (defScope (top 27)) .none kV9 dc9 pm9 an9 cd9 ct9), sl9⟩) (c9 : PySem.W.codeIn K cd9 "fits_these" = true) (k9 : PySem.W.keepIn K (.ref f9) = true)
    (a10 : PySem.W.nsIn K mainGlobals "by_boxes" = some (some (.ref f10))) (l10 : K.lookup f10 = some ⟨oc10, od10, .func (PySem.W.fnOf "by_boxes" "by_boxes" (defArgs (top 21)) (defBody (top 21)) (defScope (top 21)) .none kV10 dc10 pm10 an10 cd10 ct10), sl10⟩) (c10 : PySem.W.codeIn K cd10 "by_boxes" = true) (k10 : PySem.W.keepIn K (.ref f10) = true)
    (a11 : PySem.W.nsIn K mainGlobals "is_end" = some (some (.ref f11))) (l11 : K.lookup f11 = some ⟨oc11, od11, .func (PySem.W.fnOf "is_end" "is_end" (defArgs (top 8)) (defBody (top 8)) (defScope (top 8)) .none kV11 dc11 pm11 an11 cd11 ct11), sl11⟩) (c11 : PySem.W.codeIn K cd11 "is_end" = true) (k11 : PySem.W.keepIn K (.ref f11) = true)
    (a12 : PySem.W.nsIn K mainGlobals "is_deed" = some (some (.ref f12))) (l12 : K.lookup f12 = some ⟨oc12, od12, .func (PySem.W.fnOf "is_deed" "is_deed" (defArgs (top 9)) (defBody (top 9)) (defScope (top 9)) .none kV12 dc12 pm12 an12 cd12 ct12), sl12⟩) (c12 : PySem.W.codeIn K cd12 "is_deed" = true) (k12 : PySem.W.keepIn K (.ref f12) = true)
    (a13 : PySem.W.nsIn K mainGlobals "is_within" = some (some (.ref f13))) (l13 : K.lookup f13 = some ⟨oc13, od13, .func (PySem.W.fnOf "is_within" "is_within" (defArgs (top 6)) (defBody (top 6)) (defScope (top 6)) .none kV13 dc13 pm13 an13 cd13 ct13), sl13⟩) (c13 : PySem.W.codeIn K cd13 "is_within" = true) (k13 : PySem.W.keepIn K (.ref f13) = true)
    (a14 : PySem.W.nsIn K mainGlobals "is_ask" = some (some (.ref f14))) (l14 : K.lookup f14 = some ⟨oc14, od14, .func (PySem.W.fnOf "is_ask" "is_ask" (defArgs (top 16)) (defBody (top 16)) (defScope (top 16)) .none kV14 dc14 pm14 an14 cd14 ct14), sl14⟩) (c14 : PySem.W.codeIn K cd14 "is_ask" = true) (k14 : PySem.W.keepIn K (.ref f14) = true)
    (a15 : PySem.W.nsIn K mainGlobals "is_call" = some (some (.ref f15))) (l15 : K.lookup f15 = some ⟨oc15, od15, .func (PySem.W.fnOf "is_call" "is_call" (defArgs (top 20)) (defBody (top 20)) (defScope (top 20)) .none kV15 dc15 pm15 an15 cd15 ct15), sl15⟩) (c15 : PySem.W.codeIn K cd15 "is_call" = true) (k15 : PySem.W.keepIn K (.ref f15) = true)
    (a16 : PySem.W.nsIn K mainGlobals "is_board" = some (some (.ref f16))) (l16 : K.lookup f16 = some ⟨oc16, od16, .func (PySem.W.fnOf "is_board" "is_board" (defArgs (top 14)) (defBody (top 14)) (defScope (top 14)) .none kV16 dc16 pm16 an16 cd16 ct16), sl16⟩) (c16 : PySem.W.codeIn K cd16 "is_board" = true) (k16 : PySem.W.keepIn K (.ref f16) = true)
    (a17 : PySem.W.nsIn K mainGlobals "need_board" = some (some (.ref f17))) (l17 : K.lookup f17 = some ⟨oc17, od17, .func (PySem.W.fnOf "need_board" "need_board" (defArgs (top 15)) (defBody (top 15)) (defScope (top 15)) .none kV17 dc17 pm17 an17 cd17 ct17), sl17⟩) (c17 : PySem.W.codeIn K cd17 "need_board" = true) (k17 : PySem.W.keepIn K (.ref f17) = true)
    (a18 : PySem.W.nsIn K mainGlobals "are_calls" = some (some (.ref f18))) (l18 : K.lookup f18 = some ⟨oc18, od18, .func (PySem.W.fnOf "are_calls" "are_calls" (defArgs (top 22)) (defBody (top 22)) (defScope (top 22)) .none kV18 dc18 pm18 an18 cd18 ct18), sl18⟩) (c18 : PySem.W.codeIn K cd18 "are_calls" = true) (k18 : PySem.W.keepIn K (.ref f18) = true)
    (a19 : PySem.W.nsIn K mainGlobals "need_calls" = some (some (.ref f19))) (l19 : K.lookup f19 = some ⟨oc19, od19, .func (PySem.W.fnOf "need_calls" "need_calls" (defArgs (top 23)) (defBody (top 23)) (defScope (top 23)) .none kV19 dc19 pm19 an19 cd19 ct19), sl19⟩) (c19 : PySem.W.codeIn K cd19 "need_calls" = true) (k19 : PySem.W.keepIn K (.ref f19) = true)
    (a20 : PySem.W.nsIn K mainGlobals "fits" = some (some (.ref f20))) (l20 : K.lookup f20 = some ⟨oc20, od20, .func (PySem.W.fnOf "fits" "fits" (defArgs (top 28)) (defBody (top 28)) (defScope (top 28)) .none kV20 dc20 pm20 an20 cd20 ct20), sl20⟩) (c20 : PySem.W.codeIn K cd20 "fits" = true) (k20 : PySem.W.keepIn K (.ref f20) = true)
    (a21 : PySem.W.nsIn K mainGlobals "_law_done" = some (some (.ref f21))) (l21 : K.lookup f21 = some ⟨oc21, od21, .func (PySem.W.fnOf "_law_done" "_law_done" (defArgs (top 36)) (defBody (top 36)) (defScope (top 36)) .none kV21 dc21 pm21 an21 cd21 ct21), sl21⟩) (c21 : PySem.W.codeIn K cd21 "_law_done" = true) (k21 : PySem.W.keepIn K (.ref f21) = true)
    (a22 : PySem.W.nsIn K mainGlobals "_law_answers" = some (some (.ref f22))) (l22 : K.lookup f22 = some ⟨oc22, od22, .func (PySem.W.fnOf "_law_answers" "_law_answers" (defArgs (top 42)) (defBody (top 42)) (defScope (top 42)) .none kV22 dc22 pm22 an22 cd22 ct22), sl22⟩) (c22 : PySem.W.codeIn K cd22 "_law_answers" = true) (k22 : PySem.W.keepIn K (.ref f22) = true)
    (a23 : PySem.W.nsIn K mainGlobals "_law_keeps" = some (some (.ref f23))) (l23 : K.lookup f23 = some ⟨oc23, od23, .func (PySem.W.fnOf "_law_keeps" "_law_keeps" (defArgs (top 41)) (defBody (top 41)) (defScope (top 41)) .none kV23 dc23 pm23 an23 cd23 ct23), sl23⟩) (c23 : PySem.W.codeIn K cd23 "_law_keeps" = true) (k23 : PySem.W.keepIn K (.ref f23) = true)
    (a24 : PySem.W.nsIn K mainGlobals "_law_is_order" = some (some (.ref f24))) (l24 : K.lookup f24 = some ⟨oc24, od24, .func (PySem.W.fnOf "_law_is_order" "_law_is_order" (defArgs (top 40)) (defBody (top 40)) (defScope (top 40)) .none kV24 dc24 pm24 an24 cd24 ct24), sl24⟩) (c24 : PySem.W.codeIn K cd24 "_law_is_order" = true) (k24 : PySem.W.keepIn K (.ref f24) = true)
    (a25 : PySem.W.nsIn K mainGlobals "_law_fits" = some (some (.ref f25))) (l25 : K.lookup f25 = some ⟨oc25, od25, .func (PySem.W.fnOf "_law_fits" "_law_fits" (defArgs (top 43)) (defBody (top 43)) (defScope (top 43)) .none kV25 dc25 pm25 an25 cd25 ct25), sl25⟩) (c25 : PySem.W.codeIn K cd25 "_law_fits" = true) (k25 : PySem.W.keepIn K (.ref f25) = true)
    (a26 : PySem.W.nsIn K mainGlobals "_law_told" = some (some (.ref f26))) (l26 : K.lookup f26 = some ⟨oc26, od26, .func (PySem.W.fnOf "_law_told" "_law_told" (defArgs (top 48)) (defBody (top 48)) (defScope (top 48)) .none kV26 dc26 pm26 an26 cd26 ct26), sl26⟩) (c26 : PySem.W.codeIn K cd26 "_law_told" = true) (k26 : PySem.W.keepIn K (.ref f26) = true)
    (a27 : PySem.W.nsIn K mainGlobals "_law_shuffled" = some (some (.ref f27))) (l27 : K.lookup f27 = some ⟨oc27, od27, .func (PySem.W.fnOf "_law_shuffled" "_law_shuffled" (defArgs (top 33)) (defBody (top 33)) (defScope (top 33)) .none kV27 dc27 pm27 an27 cd27 ct27), sl27⟩) (c27 : PySem.W.codeIn K cd27 "_law_shuffled" = true) (k27 : PySem.W.keepIn K (.ref f27) = true)
    (a28 : PySem.W.nsIn K mainGlobals "_law_orders" = some (some (.ref f28))) (l28 : K.lookup f28 = some ⟨oc28, od28, .func (PySem.W.fnOf "_law_orders" "_law_orders" (defArgs (top 45)) (defBody (top 45)) (defScope (top 45)) .none kV28 dc28 pm28 an28 cd28 ct28), sl28⟩) (c28 : PySem.W.codeIn K cd28 "_law_orders" = true) (k28 : PySem.W.keepIn K (.ref f28) = true)
    (a29 : PySem.W.nsIn K mainGlobals "_law_mixed" = some (some (.ref f29))) (l29 : K.lookup f29 = some ⟨oc29, od29, .func (PySem.W.fnOf "_law_mixed" "_law_mixed" (defArgs (top 39)) (defBody (top 39)) (defScope (top 39)) .none kV29 dc29 pm29 an29 cd29 ct29), sl29⟩) (c29 : PySem.W.codeIn K cd29 "_law_mixed" = true) (k29 : PySem.W.keepIn K (.ref f29) = true)
    (a30 : PySem.W.nsIn K mainGlobals "_law_times" = some (some (.ref f30))) (l30 : K.lookup f30 = some ⟨oc30, od30, .func (PySem.W.fnOf "_law_times" "_law_times" (defArgs (top 37)) (defBody (top 37)) (defScope (top 37)) .none kV30 dc30 pm30 an30 cd30 ct30), sl30⟩) (c30 : PySem.W.codeIn K cd30 "_law_times" = true) (k30 : PySem.W.keepIn K (.ref f30) = true)
    (a31 : PySem.W.nsIn K mainGlobals "_law_number" = some (some (.ref f31))) (l31 : K.lookup f31 = some ⟨oc31, od31, .func (PySem.W.fnOf "_law_number" "_law_number" (defArgs (top 34)) (defBody (top 34)) (defScope (top 34)) .none kV31 dc31 pm31 an31 cd31 ct31), sl31⟩) (c31 : PySem.W.codeIn K cd31 "_law_number" = true) (k31 : PySem.W.keepIn K (.ref f31) = true)
    (a32 : PySem.W.nsIn K mainGlobals "_law_deed" = some (some (.ref f32))) (l32 : K.lookup f32 = some ⟨oc32, od32, .func (PySem.W.fnOf "_law_deed" "_law_deed" (defArgs (top 35)) (defBody (top 35)) (defScope (top 35)) .none kV32 dc32 pm32 an32 cd32 ct32), sl32⟩) (c32 : PySem.W.codeIn K cd32 "_law_deed" = true) (k32 : PySem.W.keepIn K (.ref f32) = true)
    (a33 : PySem.W.nsIn K mainGlobals "_law_history" = some (some (.ref f33))) (l33 : K.lookup f33 = some ⟨oc33, od33, .func (PySem.W.fnOf "_law_history" "_law_history" (defArgs (top 38)) (defBody (top 38)) (defScope (top 38)) .none kV33 dc33 pm33 an33 cd33 ct33), sl33⟩) (c33 : PySem.W.codeIn K cd33 "_law_history" = true) (k33 : PySem.W.keepIn K (.ref f33) = true)
    (a34 : PySem.W.nsIn K mainGlobals "_law_size" = some (some (.ref f34))) (l34 : K.lookup f34 = some ⟨oc34, od34, .func (PySem.W.fnOf "_law_size" "_law_size" (defArgs (top 44)) (defBody (top 44)) (defScope (top 44)) .none kV34 dc34 pm34 an34 cd34 ct34), sl34⟩) (c34 : PySem.W.codeIn K cd34 "_law_size" = true) (k34 : PySem.W.keepIn K (.ref f34) = true)
    (a35 : PySem.W.nsIn K mainGlobals "_law_at" = some (some (.ref f35))) (l35 : K.lookup f35 = some ⟨oc35, od35, .func (PySem.W.fnOf "_law_at" "_law_at" (defArgs (top 30)) (defBody (top 30)) (defScope (top 30)) .none kV35 dc35 pm35 an35 cd35 ct35), sl35⟩) (c35 : PySem.W.codeIn K cd35 "_law_at" = true) (k35 : PySem.W.keepIn K (.ref f35) = true)
    (a36 : PySem.W.nsIn K mainGlobals "_law_pot" = some (some (.ref f36))) (l36 : K.lookup f36 = some ⟨oc36, od36, .func (PySem.W.fnOf "_law_pot" "_law_pot" (defArgs (top 31)) (defBody (top 31)) (defScope (top 31)) .none kV36 dc36 pm36 an36 cd36 ct36), sl36⟩) (c36 : PySem.W.codeIn K cd36 "_law_pot" = true) (k36 : PySem.W.keepIn K (.ref f36) = true)
    (a37 : PySem.W.nsIn K mainGlobals "law" = some (some (.ref f37))) (l37 : K.lookup f37 = some ⟨oc37, od37, .func (PySem.W.fnOf "law" "law" (defArgs (top 49)) (defBody (top 49)) (defScope (top 49)) .none kV37 dc37 pm37 an37 cd37 ct37), sl37⟩) (c37 : PySem.W.codeIn K cd37 "law" = true) (k37 : PySem.W.keepIn K (.ref f37) = true)
    {t_LAST_HAND : Tok} (ga_LAST_HAND : PySem.W.nsIn K mainGlobals "LAST_HAND" = some (some (.int 15 t_LAST_HAND)))
    {t_MOST_AT_A_BOX : Tok} (ga_MOST_AT_A_BOX : PySem.W.nsIn K mainGlobals "MOST_AT_A_BOX" = some (some (.int 8 t_MOST_AT_A_BOX)))
    {t_MOST_BOXES : Tok} (ga_MOST_BOXES : PySem.W.nsIn K mainGlobals "MOST_BOXES" = some (some (.int 16 t_MOST_BOXES)))
    {t_MOST_CALLS : Tok} (ga_MOST_CALLS : PySem.W.nsIn K mainGlobals "MOST_CALLS" = some (some (.int 40 t_MOST_CALLS)))
    (ga_any : PySem.W.nsIn K mainGlobals "any" = some none)
    (ga_enumerate : PySem.W.nsIn K mainGlobals "enumerate" = some none)
    (ga_sorted : PySem.W.nsIn K mainGlobals "sorted" = some none)
    (z_abs : PySem.W.nsIn K mainGlobals "abs" = some none)
    (z_len : PySem.W.nsIn K mainGlobals "len" = some none)
    (z_max : PySem.W.nsIn K mainGlobals "max" = some none)
    (z_min : PySem.W.nsIn K mainGlobals "min" = some none)
    (z_divmod : PySem.W.nsIn K mainGlobals "divmod" = some none)
    (z_repr : PySem.W.nsIn K mainGlobals "repr" = some none)
    (z_isinstance : PySem.W.nsIn K mainGlobals "isinstance" = some none)
    (z_all : PySem.W.nsIn K mainGlobals "all" = some none)
    (z_range : PySem.W.nsIn K mainGlobals "range" = some none)
    (z_int : PySem.W.nsIn K mainGlobals "int" = some none)
    (z_bool : PySem.W.nsIn K mainGlobals "bool" = some none)
    (z_str : PySem.W.nsIn K mainGlobals "str" = some none)
    (z_tuple : PySem.W.nsIn K mainGlobals "tuple" = some none)
    (z_list : PySem.W.nsIn K mainGlobals "list" = some none)
    (z_dict : PySem.W.nsIn K mainGlobals "dict" = some none)
    :
    ∃ fd : FuncData, (∀ (s : Shared) (v : Value), BindsTo s fd ⟨[v], []⟩ [("_law_script", v)]) ∧ ∀ base : Heap, K.In base → base.Ns mainGlobals mg → FnOk l.prog w K mg base CX0 10 fa fd ["_law_script"] (sp_law K) := by
  have e := hfa.symm.trans (PySem.W.mg_of X G a37)
  cases e
  have F1 := fun_mk (st := (top 32)) l1 c1 k1
  have F2 := fun_mk (st := (top 46)) l2 c2 k2
  have F3 := fun_mk (st := (top 47)) l3 c3 k3
  have F4 := fun_mk (st := (top 10)) l4 c4 k4
  have F5 := fun_mk (st := (top 25)) l5 c5 k5
  have F6 := fun_mk (st := (top 26)) l6 c6 k6
  have F7 := fun_mk (st := (top 5)) l7 c7 k7
  have F8 := fun_mk (st := (top 24)) l8 c8 k8
  have F9 := fun_mk (st := (top 27)) l9 c9 k9
  have F10 := fun_mk (st := (top 21)) l10 c10 k10
  have F11 := fun_mk (st := (top 8)) l11 c11 k11
  have F12 := fun_mk (st := (top 9)) l12 c12 k12
  have F13 := fun_mk (st := (top 6)) l13 c13 k13
  have F14 := fun_mk (st := (top 16)) l14 c14 k14
  have F15 := fun_mk (st := (top 20)) l15 c15 k15
  have F16 := fun_mk (st := (top 14)) l16 c16 k16
  have F17 := fun_mk (st := (top 15)) l17 c17 k17
  have F18 := fun_mk (st := (top 22)) l18 c18 k18
  have F19 := fun_mk (st := (top 23)) l19 c19 k19
  have F20 := fun_mk (st := (top 28)) l20 c20 k20
  have F21 := fun_mk (st := (top 36)) l21 c21 k21
  have F22 := fun_mk (st := (top 42)) l22 c22 k22
  have F23 := fun_mk (st := (top 41)) l23 c23 k23
  have F24 := fun_mk (st := (top 40)) l24 c24 k24
  have F25 := fun_mk (st := (top 43)) l25 c25 k25
  have F26 := fun_mk (st := (top 48)) l26 c26 k26
  have F27 := fun_mk (st := (top 33)) l27 c27 k27
  have F28 := fun_mk (st := (top 45)) l28 c28 k28
  have F29 := fun_mk (st := (top 39)) l29 c29 k29
  have F30 := fun_mk (st := (top 37)) l30 c30 k30
  have F31 := fun_mk (st := (top 34)) l31 c31 k31
  have F32 := fun_mk (st := (top 35)) l32 c32 k32
  have F33 := fun_mk (st := (top 38)) l33 c33 k33
  have F34 := fun_mk (st := (top 44)) l34 c34 k34
  have F35 := fun_mk (st := (top 30)) l35 c35 k35
  have F36 := fun_mk (st := (top 31)) l36 c36 k36
  have F37 := fun_mk (st := (top 49)) l37 c37 k37
  have b1 := F1.binds (ps := ["_law_pot_here", "_law_many"]) fun _ _ _ _ _ _ us hl => by obtain ⟨_, _, rfl⟩ := my_len2 hl; rfl
  have b2 := F2.binds (ps := ["_law_pot_here", "_law_calls"]) fun _ _ _ _ _ _ us hl => by obtain ⟨_, _, rfl⟩ := my_len2 hl; rfl
  have b3 := F3.binds (ps := ["_law_found", "_law_due"]) fun _ _ _ _ _ _ us hl => by obtain ⟨_, _, rfl⟩ := my_len2 hl; rfl
  have b4 := F4.binds (ps := ["deed", "value"]) fun _ _ _ _ _ _ us hl => by obtain ⟨_, _, rfl⟩ := my_len2 hl; rfl
  have b5 := F5.binds (ps := ["board", "calls", "order"]) fun _ _ _ _ _ _ us hl => by obtain ⟨_, _, _, rfl⟩ := my_len3 hl; rfl
  have b6 := F6.binds (ps := ["calls", "order"]) fun _ _ _ _ _ _ us hl => by obtain ⟨_, _, rfl⟩ := my_len2 hl; rfl
  have b7 := F7.binds (ps := ["thing"]) fun _ _ _ _ _ _ us hl => by obtain ⟨_, rfl⟩ := my_len1 hl; rfl
  have b8 := F8.binds (ps := ["thing", "numbers"]) fun _ _ _ _ _ _ us hl => by obtain ⟨_, _, rfl⟩ := my_len2 hl; rfl
  have b9 := F9.binds (ps := ["board", "calls", "numbers", "order"]) fun _ _ _ _ _ _ us hl => by obtain ⟨_, _, _, _, rfl⟩ := my_len4 hl; rfl
  have b10 := F10.binds (ps := ["board", "calls"]) fun _ _ _ _ _ _ us hl => by obtain ⟨_, _, rfl⟩ := my_len2 hl; rfl
  have b11 := F11.binds (ps := ["thing"]) fun _ _ _ _ _ _ us hl => by obtain ⟨_, rfl⟩ := my_len1 hl; rfl
  have b12 := F12.binds (ps := ["thing"]) fun _ _ _ _ _ _ us hl => by obtain ⟨_, rfl⟩ := my_len1 hl; rfl
  have b13 := F13.binds (ps := ["thing", "least", "greatest"]) fun _ _ _ _ _ _ us hl => by obtain ⟨_, _, _, rfl⟩ := my_len3 hl; rfl
  have b14 := F14.binds (ps := ["board", "thing"]) fun _ _ _ _ _ _ us hl => by obtain ⟨_, _, rfl⟩ := my_len2 hl; rfl
  have b15 := F15.binds (ps := ["board", "thing"]) fun _ _ _ _ _ _ us hl => by obtain ⟨_, _, rfl⟩ := my_len2 hl; rfl
  have b16 := F16.binds (ps := ["thing"]) fun _ _ _ _ _ _ us hl => by obtain ⟨_, rfl⟩ := my_len1 hl; rfl
  have b17 := F17.binds (ps := ["thing"]) fun _ _ _ _ _ _ us hl => by obtain ⟨_, rfl⟩ := my_len1 hl; rfl
  have b18 := F18.binds (ps := ["board", "thing"]) fun _ _ _ _ _ _ us hl => by obtain ⟨_, _, rfl⟩ := my_len2 hl; rfl
  have b19 := F19.binds (ps := ["board", "thing"]) fun _ _ _ _ _ _ us hl => by obtain ⟨_, _, rfl⟩ := my_len2 hl; rfl
  have b20 := F20.binds (ps := ["board", "calls", "order"]) fun _ _ _ _ _ _ us hl => by obtain ⟨_, _, _, rfl⟩ := my_len3 hl; rfl
  have b21 := F21.binds (ps := ["_law_deed_here", "_law_value"]) fun _ _ _ _ _ _ us hl => by obtain ⟨_, _, rfl⟩ := my_len2 hl; rfl
  have b22 := F22.binds (ps := ["_law_board", "_law_calls", "_law_row"]) fun _ _ _ _ _ _ us hl => by obtain ⟨_, _, _, rfl⟩ := my_len3 hl; rfl
  have b23 := F23.binds (ps := ["_law_calls", "_law_row"]) fun _ _ _ _ _ _ us hl => by obtain ⟨_, _, rfl⟩ := my_len2 hl; rfl
  have b24 := F24.binds (ps := ["_law_thing", "_law_many"]) fun _ _ _ _ _ _ us hl => by obtain ⟨_, _, rfl⟩ := my_len2 hl; rfl
  have b25 := F25.binds (ps := ["_law_board", "_law_calls", "_law_thing"]) fun _ _ _ _ _ _ us hl => by obtain ⟨_, _, _, rfl⟩ := my_len3 hl; rfl
  have b26 := F26.binds (ps := ["_law_board", "_law_calls", "_law_some"]) fun _ _ _ _ _ _ us hl => by obtain ⟨_, _, _, rfl⟩ := my_len3 hl; rfl
  have b27 := F27.binds (ps := ["_law_pot_here", "_law_row"]) fun _ _ _ _ _ _ us hl => by obtain ⟨_, _, rfl⟩ := my_len2 hl; rfl
  have b28 := F28.binds (ps := ["_law_pot_here", "_law_order"]) fun _ _ _ _ _ _ us hl => by obtain ⟨_, _, rfl⟩ := my_len2 hl; rfl
  have b29 := F29.binds (ps := ["_law_pot_here", "_law_some"]) fun _ _ _ _ _ _ us hl => by obtain ⟨_, _, rfl⟩ := my_len2 hl; rfl
  have b30 := F30.binds (ps := ["_law_pot_here", "_law_moment", "_law_scale"]) fun _ _ _ _ _ _ us hl => by obtain ⟨_, _, _, rfl⟩ := my_len3 hl; rfl
  have b31 := F31.binds (ps := ["_law_pot_here", "_law_wide"]) fun _ _ _ _ _ _ us hl => by obtain ⟨_, _, rfl⟩ := my_len2 hl; rfl
  have b32 := F32.binds (ps := ["_law_pot_here", "_law_wide"]) fun _ _ _ _ _ _ us hl => by obtain ⟨_, _, rfl⟩ := my_len2 hl; rfl
  have b33 := F33.binds (ps := ["_law_pot_here", "_law_boxes", "_law_many", "_law_wide"]) fun _ _ _ _ _ _ us hl => by obtain ⟨_, _, _, _, rfl⟩ := my_len4 hl; rfl
  have b34 := F34.binds (ps := ["_law_pot_here", "_law_boxes"]) fun _ _ _ _ _ _ us hl => by obtain ⟨_, _, rfl⟩ := my_len2 hl; rfl
  have b35 := F35.binds (ps := ["_law_script", "_law_k"]) fun _ _ _ _ _ _ us hl => by obtain ⟨_, _, rfl⟩ := my_len2 hl; rfl
  have b36 := F36.binds (ps := ["_law_script", "_law_k"]) fun _ _ _ _ _ _ us hl => by obtain ⟨_, _, rfl⟩ := my_len2 hl; rfl
  have B : Blt mg := ⟨PySem.W.mg_none_of X G z_abs, PySem.W.mg_none_of X G z_len, PySem.W.mg_none_of X G z_max, PySem.W.mg_none_of X G z_min, PySem.W.mg_none_of X G z_divmod, PySem.W.mg_none_of X G z_repr, PySem.W.mg_none_of X G z_isinstance, PySem.W.mg_none_of X G z_all, PySem.W.mg_none_of X G z_range, PySem.W.mg_none_of X G z_int, PySem.W.mg_none_of X G z_bool, PySem.W.mg_none_of X G z_str, PySem.W.mg_none_of X G z_tuple, PySem.W.mg_none_of X G z_list, PySem.W.mg_none_of X G z_dict⟩
  refine ⟨PySem.W.fnOf "law" "law" (defArgs (top 49)) (defBody (top 49)) (defScope (top 49)) .none kV37 dc37 pm37 an37 cd37 ct37, fun s v => .of_eq rfl, fun base _ _ => ?_⟩
  have C1 : Callee l.prog w K mg base 1 "_law_take" ["_law_pot_here", "_law_many"] (sp_take K) := ⟨_, _, ok__law_take (P := l.prog) (w := w) (base := base) (n := 0) F1 B      , b1, k1, PySem.W.mg_of X G a1⟩
  have C2 : Callee l.prog w K mg base 2 "_law_spoilt" ["_law_pot_here", "_law_calls"] (sp_spoilt72 K) := ⟨_, _, ok__law_spoilt (P := l.prog) (w := w) (base := base) (n := 1) F2 B   (C1.mono (by decide))   , b2, k2, PySem.W.mg_of X G a2⟩
  have C3 : Callee l.prog w K mg base 1 "_law_is_truth" ["_law_found", "_law_due"] (sp_truth72 K) := ⟨_, _, ok__law_is_truth (P := l.prog) (w := w) (base := base) (n := 0) F3 B      , b3, k3, PySem.W.mg_of X G a3⟩
  have C4 : Callee l.prog w K mg base 1 "made" ["deed", "value"] (sp_made K) := ⟨_, _, ok_made (P := l.prog) (w := w) (base := base) (n := 0) F4 B      , b4, k4, PySem.W.mg_of X G a4⟩
  have C5 : Callee l.prog w K mg base 2 "are_answered" ["board", "calls", "order"] (sp_ans72 K) := ⟨_, _, ok_are_answered (P := l.prog) (w := w) (base := base) (n := 1) F5 B   (C4.mono (by decide))   , b5, k5, PySem.W.mg_of X G a5⟩
  have C6 : Callee l.prog w K mg base 1 "keeps_ahead" ["calls", "order"] (sp_keep72 K) := ⟨_, _, ok_keeps_ahead (P := l.prog) (w := w) (base := base) (n := 0) F6 B      , b6, k6, PySem.W.mg_of X G a6⟩
  have C7 : Callee l.prog w K mg base 1 "is_whole" ["thing"] (sp_is_whole K) := ⟨_, _, ok_is_whole (P := l.prog) (w := w) (base := base) (n := 0) F7 B      , b7, k7, PySem.W.mg_of X G a7⟩
  have C8 : Callee l.prog w K mg base 2 "is_order" ["thing", "numbers"] (sp_isord72 K) := ⟨_, _, ok_is_order (P := l.prog) (w := w) (base := base) (n := 1) F8 B   (C7.mono (by decide)) (PySem.W.mg_none_of X G ga_sorted)  , b8, k8, PySem.W.mg_of X G a8⟩
  have C9 : Callee l.prog w K mg base 3 "fits_these" ["board", "calls", "numbers", "order"] (sp_these72 K) := ⟨_, _, ok_fits_these (P := l.prog) (w := w) (base := base) (n := 2) F9 B   (C5.mono (by decide)) (C6.mono (by decide)) (C8.mono (by decide))   , b9, k9, PySem.W.mg_of X G a9⟩
  have C10 : Callee l.prog w K mg base 1 "by_boxes" ["board", "calls"] (sp_byb72 K) := ⟨_, _, ok_by_boxes (P := l.prog) (w := w) (base := base) (n := 0) F10 B    (PySem.W.mg_none_of X G ga_enumerate)  , b10, k10, PySem.W.mg_of X G a10⟩
  have C11 : Callee l.prog w K mg base 2 "is_end" ["thing"] (sp_is_end K) := ⟨_, _, ok_is_end (P := l.prog) (w := w) (base := base) (n := 1) F11 B   (C7.mono (by decide))   , b11, k11, PySem.W.mg_of X G a11⟩
  have C12 : Callee l.prog w K mg base 3 "is_deed" ["thing"] (sp_is_deed K) := ⟨_, _, ok_is_deed (P := l.prog) (w := w) (base := base) (n := 2) F12 B   (C11.mono (by decide)) (C7.mono (by decide))   , b12, k12, PySem.W.mg_of X G a12⟩
  have C13 : Callee l.prog w K mg base 2 "is_within" ["thing", "least", "greatest"] (sp_is_within K) := ⟨_, _, ok_is_within (P := l.prog) (w := w) (base := base) (n := 1) F13 B   (C7.mono (by decide))   , b13, k13, PySem.W.mg_of X G a13⟩
  have C14 : Callee l.prog w K mg base 4 "is_ask" ["board", "thing"] (sp_is_ask K) := ⟨_, _, ok_is_ask (P := l.prog) (w := w) (base := base) (n := 3) F14 B   (C12.mono (by decide)) (C13.mono (by decide))  (PySem.W.mg_of X G ga_LAST_HAND) , b14, k14, PySem.W.mg_of X G a14⟩
  have C15 : Callee l.prog w K mg base 5 "is_call" ["board", "thing"] (sp_is_call72 K) := ⟨_, _, ok_is_call (P := l.prog) (w := w) (base := base) (n := 4) F15 B   (C7.mono (by decide)) (C14.mono (by decide))   , b15, k15, PySem.W.mg_of X G a15⟩
  have C16 : Callee l.prog w K mg base 2 "is_board" ["thing"] (sp_is_board K) := ⟨_, _, ok_is_board (P := l.prog) (w := w) (base := base) (n := 1) F16 B   (C7.mono (by decide))  (PySem.W.mg_of X G ga_MOST_BOXES) , b16, k16, PySem.W.mg_of X G a16⟩
  have C17 : Callee l.prog w K mg base 3 "need_board" ["thing"] (sp_need_board K) := ⟨_, _, ok_need_board (P := l.prog) (w := w) (base := base) (n := 2) F17 B   (C16.mono (by decide))   , b17, k17, PySem.W.mg_of X G a17⟩
  have C18 : Callee l.prog w K mg base 6 "are_calls" ["board", "thing"] (sp_are72 K) := ⟨_, _, ok_are_calls (P := l.prog) (w := w) (base := base) (n := 5) F18 B   (C10.mono (by decide)) (C15.mono (by decide)) (C17.mono (by decide))  (PySem.W.mg_of X G ga_MOST_AT_A_BOX) (PySem.W.mg_of X G ga_MOST_CALLS) , b18, k18, PySem.W.mg_of X G a18⟩
  have C19 : Callee l.prog w K mg base 7 "need_calls" ["board", "thing"] (sp_need72 K) := ⟨_, _, ok_need_calls (P := l.prog) (w := w) (base := base) (n := 6) F19 B   (C18.mono (by decide))   , b19, k19, PySem.W.mg_of X G a19⟩
  have C20 : Callee l.prog w K mg base 8 "fits" ["board", "calls", "order"] (sp_fits72 K) := ⟨_, _, ok_fits (P := l.prog) (w := w) (base := base) (n := 7) F20 B   (C9.mono (by decide)) (C19.mono (by decide))   , b20, k20, PySem.W.mg_of X G a20⟩
  have C21 : Callee l.prog w K mg base 1 "_law_done" ["_law_deed_here", "_law_value"] (sp_made K) := ⟨_, _, ok__law_done (P := l.prog) (w := w) (base := base) (n := 0) F21 B      , b21, k21, PySem.W.mg_of X G a21⟩
  have C22 : Callee l.prog w K mg base 2 "_law_answers" ["_law_board", "_law_calls", "_law_row"] (sp_ans72 K) := ⟨_, _, ok__law_answers (P := l.prog) (w := w) (base := base) (n := 1) F22 B   (C21.mono (by decide))   , b22, k22, PySem.W.mg_of X G a22⟩
  have C23 : Callee l.prog w K mg base 1 "_law_keeps" ["_law_calls", "_law_row"] (sp_keep72 K) := ⟨_, _, ok__law_keeps (P := l.prog) (w := w) (base := base) (n := 0) F23 B    (PySem.W.mg_none_of X G ga_enumerate) (PySem.W.mg_none_of X G ga_any)  , b23, k23, PySem.W.mg_of X G a23⟩
  have C24 : Callee l.prog w K mg base 1 "_law_is_order" ["_law_thing", "_law_many"] (sp_lisord72 K) := ⟨_, _, ok__law_is_order (P := l.prog) (w := w) (base := base) (n := 0) F24 B    (PySem.W.mg_none_of X G ga_sorted) (PySem.W.mg_none_of X G ga_any)  , b24, k24, PySem.W.mg_of X G a24⟩
  have C25 : Callee l.prog w K mg base 3 "_law_fits" ["_law_board", "_law_calls", "_law_thing"] (sp_fits72 K) := ⟨_, _, ok__law_fits (P := l.prog) (w := w) (base := base) (n := 2) F25 B   (C22.mono (by decide)) (C23.mono (by decide)) (C24.mono (by decide))   , b25, k25, PySem.W.mg_of X G a25⟩
  have C26 : Callee l.prog w K mg base 9 "_law_told" ["_law_board", "_law_calls", "_law_some"] (sp_told72 K) := ⟨_, _, ok__law_told (P := l.prog) (w := w) (base := base) (n := 8) F26 B   (C3.mono (by decide)) (C20.mono (by decide)) (C25.mono (by decide))   , b26, k26, PySem.W.mg_of X G a26⟩
  have C27 : Callee l.prog w K mg base 2 "_law_shuffled" ["_law_pot_here", "_law_row"] (sp_shuf72 K) := ⟨_, _, ok__law_shuffled (P := l.prog) (w := w) (base := base) (n := 1) F27 B   (C1.mono (by decide))   , b27, k27, PySem.W.mg_of X G a27⟩
  have C28 : Callee l.prog w K mg base 3 "_law_orders" ["_law_pot_here", "_law_order"] (sp_orders72 K) := ⟨_, _, ok__law_orders (P := l.prog) (w := w) (base := base) (n := 2) F28 B   (C27.mono (by decide)) (C1.mono (by decide)) (PySem.W.mg_none_of X G ga_sorted)  , b28, k28, PySem.W.mg_of X G a28⟩
  have C29 : Callee l.prog w K mg base 3 "_law_mixed" ["_law_pot_here", "_law_some"] (sp_mixed72 K) := ⟨_, _, ok__law_mixed (P := l.prog) (w := w) (base := base) (n := 2) F29 B   (C27.mono (by decide))   , b29, k29, PySem.W.mg_of X G a29⟩
  have C30 : Callee l.prog w K mg base 2 "_law_times" ["_law_pot_here", "_law_moment", "_law_scale"] (sp_times72 K) := ⟨_, _, ok__law_times (P := l.prog) (w := w) (base := base) (n := 1) F30 B   (C1.mono (by decide))   , b30, k30, PySem.W.mg_of X G a30⟩
  have C31 : Callee l.prog w K mg base 2 "_law_number" ["_law_pot_here", "_law_wide"] (sp_num72 K) := ⟨_, _, ok__law_number (P := l.prog) (w := w) (base := base) (n := 1) F31 B   (C1.mono (by decide))   , b31, k31, PySem.W.mg_of X G a31⟩
  have C32 : Callee l.prog w K mg base 3 "_law_deed" ["_law_pot_here", "_law_wide"] (sp_deed72 K) := ⟨_, _, ok__law_deed (P := l.prog) (w := w) (base := base) (n := 2) F32 B   (C1.mono (by decide)) (C31.mono (by decide))   , b32, k32, PySem.W.mg_of X G a32⟩
  have C33 : Callee l.prog w K mg base 4 "_law_history" ["_law_pot_here", "_law_boxes", "_law_many", "_law_wide"] (sp_hist72 K) := ⟨_, _, ok__law_history (P := l.prog) (w := w) (base := base) (n := 3) F33 B   (C21.mono (by decide)) (C1.mono (by decide)) (C30.mono (by decide)) (C32.mono (by decide)) (C31.mono (by decide))   , b33, k33, PySem.W.mg_of X G a33⟩
  have C34 : Callee l.prog w K mg base 2 "_law_size" ["_law_pot_here", "_law_boxes"] (sp_size72 K) := ⟨_, _, ok__law_size (P := l.prog) (w := w) (base := base) (n := 1) F34 B   (C1.mono (by decide))   , b34, k34, PySem.W.mg_of X G a34⟩
  have C35 : Callee l.prog w K mg base 1 "_law_at" ["_law_script", "_law_k"] (sp_at72 K) := ⟨_, _, ok__law_at (P := l.prog) (w := w) (base := base) (n := 0) F35 B      , b35, k35, PySem.W.mg_of X G a35⟩
  have C36 : Callee l.prog w K mg base 2 "_law_pot" ["_law_script", "_law_k"] (sp_pot K) := ⟨_, _, ok__law_pot (P := l.prog) (w := w) (base := base) (n := 1) F36 B   (C35.mono (by decide))   , b36, k36, PySem.W.mg_of X G a36⟩
  exact ok_law (P := l.prog) (w := w) (base := base) (n := 9) F37 B   (C2.mono (by decide)) (C26.mono (by decide)) (C28.mono (by decide)) (C20.mono (by decide)) (C29.mono (by decide)) (C33.mono (by decide)) (C1.mono (by decide)) (C34.mono (by decide)) (C36.mono (by decide))   
theorem walk {l : PySem.W.OpenLaw} {q : Program} {loose : List Str} {XP : (Str → Option Value) → Heap → Prop} {YP : World → Heap → Prop} {d : DefRec} {K : Params → PySem.W.Frag} (hn : l.most = some 63) (hdf : d.params.defaults = [])
    (hY : ∀ (w : World) (h : Heap), YP w h → (K w.params).In h)
    (F : ∀ (w : World) (mg : Str → Option Value) (fa : Addr) (h : Heap), (K w.params).In h → h.Ns mainGlobals mg → mg d.name = some (.ref fa) →
      ∃ fd : FuncData, (∀ (s : Shared) (u : Value), BindsTo s fd ⟨[u], []⟩ [("_law_script", u)]) ∧ ∀ base : Heap, (K w.params).In base → base.Ns mainGlobals mg → FnOk l.prog w (K w.params) mg base CX0 10 fa fd ["_law_script"] (sp_law (K w.params))) :
    PySem.W.WalkO q loose XP YP l.row.toRowW d [] (fun f vs => PySem.call f vs) :=
  L2.walk_of (n := 63) (k := 10) (x := "_law_script") (CX := fun _ => CX0) (sp := fun w => sp_law (K w.params)) hn (by decide) hdf ⟨rfl, by decide, by decide, rfl⟩ hY F (fun _ _ a ns hl hO hS => ⟨_, rfl, a, ns, rfl, Scr.of hO hS, hl, fun _ => rfl⟩) fun _ _ _ _ _ z => z
theorem walkX {q : Program} {loose : List Str} {XP : (Str → Option Value) → Heap → Prop} {K : Params → PySem.W.Frag} {as : List Addr} {n t : Nat} {r : PySem.W.RowW} {d : DefRec} {kwd : List (Str × Expr)} {run : Value → List Value → Sem Value}
    (e : ∀ P, as = (K P).map (·.1)) (W : PySem.W.WalkO q loose XP (PySem.W.InK K) r d kwd run) : PySem.W.WalkX q loose XP (PySem.W.X.obsZ as) (PySem.W.X.valZ K n t) r d kwd run :=
  fun w s₀ s₁ mg mb G Y a o pm cd doc dV kV h2 h3 h4 h5 h6 h7 args vals as' L hpre hlay hrd hwl hlo =>
    W w s₀ s₁ mg mb G (PySem.W.InK.keeps w s₀.heap s₁.heap (PySem.W.X.z_facts e Y).2.1 L.keeps) a o pm cd doc dV kV h2 h3 h4 h5 h6 h7 args vals as' hpre hlay hrd hwl hlo
end My
open PySem PySem.W PyProof.Rows
set_option maxRecDepth 100000 in
set_option maxHeartbeats 0 in
theorem PySem.Challenge.cw_joinedasks_k72_whole_orders_that_fit_holds : PySem.Challenge.rw_joinedasks_k72_whole_orders_that_fit.Holds := by
  w_on; o_law; z_head; (case hw => w_witness2)
  refine My.walkX (fun _ => by kernel_rfl) (My.walk (l := PySem.Challenge.rw_joinedasks_k72_whole_orders_that_fit) rfl rfl (fun w h Y => Y) ?F)
  case F =>
    intro w mg fa h KX G hmg
    refine' My.all_mk KX G hmg       ?a1 ?l1 ?c1 ?k1 ?a2 ?l2 ?c2 ?k2 ?a3 ?l3 ?c3 ?k3 ?a4 ?l4 ?c4 ?k4 ?a5 ?l5 ?c5 ?k5 ?a6 ?l6 ?c6 ?k6 ?a7 ?l7 ?c7 ?k7 ?a8 ?l8 ?c8 ?k8 ?a9 ?l9 ?c9 ?k9 ?a10 ?l10 ?c10 ?k10 ?a11 ?l11 ?c11 ?k11 ?a12 ?l12 ?c12 ?k12 ?a13 ?l13 ?c13 ?k13 ?a14 ?l14 ?c14 ?k14 ?a15 ?l15 ?c15 ?k15 ?a16 ?l16 ?c16 ?k16 ?a17 ?l17 ?c17 ?k17 ?a18 ?l18 ?c18 ?k18 ?a19 ?l19 ?c19 ?k19 ?a20 ?l20 ?c20 ?k20 ?a21 ?l21 ?c21 ?k21 ?a22 ?l22 ?c22 ?k22 ?a23 ?l23 ?c23 ?k23 ?a24 ?l24 ?c24 ?k24 ?a25 ?l25 ?c25 ?k25 ?a26 ?l26 ?c26 ?k26 ?a27 ?l27 ?c27 ?k27 ?a28 ?l28 ?c28 ?k28 ?a29 ?l29 ?c29 ?k29 ?a30 ?l30 ?c30 ?k30 ?a31 ?l31 ?c31 ?k31 ?a32 ?l32 ?c32 ?k32 ?a33 ?l33 ?c33 ?k33 ?a34 ?l34 ?c34 ?k34 ?a35 ?l35 ?c35 ?k35 ?a36 ?l36 ?c36 ?k36 ?a37 ?l37 ?c37 ?k37 ?ga_LAST_HAND ?ga_MOST_AT_A_BOX ?ga_MOST_BOXES ?ga_MOST_CALLS ?ga_any ?ga_enumerate ?ga_sorted ?z_abs ?z_len ?z_max ?z_min ?z_divmod ?z_repr ?z_isinstance ?z_all ?z_range ?z_int ?z_bool ?z_str ?z_tuple ?z_list ?z_dict
    (case a1 => k_is); (case l1 => k_is); (case c1 => k_is); (case k1 => k_is)
    (case a2 => k_is); (case l2 => k_is); (case c2 => k_is); (case k2 => k_is)
    (case a3 => k_is); (case l3 => k_is); (case c3 => k_is); (case k3 => k_is)
    (case a4 => k_is); (case l4 => k_is); (case c4 => k_is); (case k4 => k_is)
    (case a5 => k_is); (case l5 => k_is); (case c5 => k_is); (case k5 => k_is)
    (case a6 => k_is); (case l6 => k_is); (case c6 => k_is); (case k6 => k_is)
    (case a7 => k_is); (case l7 => k_is); (case c7 => k_is); (case k7 => k_is)
    (case a8 => k_is); (case l8 => k_is); (case c8 => k_is); (case k8 => k_is)
    (case a9 => k_is); (case l9 => k_is); (case c9 => k_is); (case k9 => k_is)
    (case a10 => k_is); (case l10 => k_is); (case c10 => k_is); (case k10 => k_is)
    (case a11 => k_is); (case l11 => k_is); (case c11 => k_is); (case k11 => k_is)
    (case a12 => k_is); (case l12 => k_is); (case c12 => k_is); (case k12 => k_is)
    (case a13 => k_is); (case l13 => k_is); (case c13 => k_is); (case k13 => k_is)
    (case a14 => k_is); (case l14 => k_is); (case c14 => k_is); (case k14 => k_is)
    (case a15 => k_is); (case l15 => k_is); (case c15 => k_is); (case k15 => k_is)
    (case a16 => k_is); (case l16 => k_is); (case c16 => k_is); (case k16 => k_is)
    (case a17 => k_is); (case l17 => k_is); (case c17 => k_is); (case k17 => k_is)
    (case a18 => k_is); (case l18 => k_is); (case c18 => k_is); (case k18 => k_is)
    (case a19 => k_is); (case l19 => k_is); (case c19 => k_is); (case k19 => k_is)
    (case a20 => k_is); (case l20 => k_is); (case c20 => k_is); (case k20 => k_is)
    (case a21 => k_is); (case l21 => k_is); (case c21 => k_is); (case k21 => k_is)
    (case a22 => k_is); (case l22 => k_is); (case c22 => k_is); (case k22 => k_is)
    (case a23 => k_is); (case l23 => k_is); (case c23 => k_is); (case k23 => k_is)
    (case a24 => k_is); (case l24 => k_is); (case c24 => k_is); (case k24 => k_is)
    (case a25 => k_is); (case l25 => k_is); (case c25 => k_is); (case k25 => k_is)
    (case a26 => k_is); (case l26 => k_is); (case c26 => k_is); (case k26 => k_is)
    (case a27 => k_is); (case l27 => k_is); (case c27 => k_is); (case k27 => k_is)
    (case a28 => k_is); (case l28 => k_is); (case c28 => k_is); (case k28 => k_is)
    (case a29 => k_is); (case l29 => k_is); (case c29 => k_is); (case k29 => k_is)
    (case a30 => k_is); (case l30 => k_is); (case c30 => k_is); (case k30 => k_is)
    (case a31 => k_is); (case l31 => k_is); (case c31 => k_is); (case k31 => k_is)
    (case a32 => k_is); (case l32 => k_is); (case c32 => k_is); (case k32 => k_is)
    (case a33 => k_is); (case l33 => k_is); (case c33 => k_is); (case k33 => k_is)
    (case a34 => k_is); (case l34 => k_is); (case c34 => k_is); (case k34 => k_is)
    (case a35 => k_is); (case l35 => k_is); (case c35 => k_is); (case k35 => k_is)
    (case a36 => k_is); (case l36 => k_is); (case c36 => k_is); (case k36 => k_is)
    (case a37 => k_is); (case l37 => k_is); (case c37 => k_is); (case k37 => k_is)
    (case ga_LAST_HAND => k_is)
    (case ga_MOST_AT_A_BOX => k_is)
    (case ga_MOST_BOXES => k_is)
    (case ga_MOST_CALLS => k_is)
    (case ga_any => k_is)
    (case ga_enumerate => k_is)
    (case ga_sorted => k_is)
    (case z_abs => k_is); (case z_len => k_is); (case z_max => k_is); (case z_min => k_is); (case z_divmod => k_is); (case z_repr => k_is); (case z_isinstance => k_is); (case z_all => k_is); (case z_range => k_is); (case z_int => k_is); (case z_bool => k_is); (case z_str => k_is); (case z_tuple => k_is); (case z_list => k_is); (case z_dict => k_is)
